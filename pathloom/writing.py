"""Trees written as documents."""

from pathloom.markup import markup_of
from pathloom.trees import check_tree


def write(tree):
    """The text of a tree; it reads back to a tree with the same nodes."""
    check_tree(tree)
    return markup_of(tree.root.children, ())
