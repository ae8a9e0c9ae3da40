"""White space that is removed from documents when a stylesheet uses them."""

from pathloom.modules import is_white
from pathloom.trees import copied_tree


class Strips:
    """The entries of the strip-space and preserve-space elements of a stylesheet.

    `best` has for each name, and for `*`, a tuple of the rank of the entry that
    counts and whether it is of strip-space.
    """

    def __init__(self, parts):
        self.best = {}
        for at, (piece, module) in enumerate(parts):
            is_strip = piece.is_word("strip-space")
            if is_strip or piece.is_word("preserve-space"):
                for name in piece.meant["elements"]:
                    self.put_entry(name, (module.precedence, name != "*", at), is_strip)

    def put_entry(self, name, rank, is_strip):
        """Put an entry; of those with one rank the last one counts."""
        if name not in self.best or self.best[name][0] <= rank:
            self.best[name] = (rank, is_strip)

    def is_stripped(self, name):
        """Whether the elements of a name are to be stripped."""
        told = [self.best[entry] for entry in (name, "*") if entry in self.best]
        return told != [] and max(told)[1]

    def white_texts(self, tree):
        """The texts of a tree that are removed, as the keys of a dict."""
        found = {}
        if self.best == {}:
            return found
        for node in tree.nodes:
            if node.kind == "text" and is_white(node.text):
                if self.is_stripped(node.parent.name) and not is_preserved(node.parent):
                    found[node] = True
        return found


def is_preserved(node):
    """Whether the nearest xml:space, of a node or above it, is preserve."""
    while node is not None:
        for attribute in node.attributes:
            if attribute.name == "xml:space":
                return attribute.text == "preserve"
        node = node.parent
    return False


def stripped_copy(tree, strips):
    """A copy of a tree without what is removed from it."""
    return copied_tree(tree, strips.white_texts(tree))


def stripped_source(tree, strips):
    """A tree without what is removed from it, and the list of its nodes as they were handed in."""
    left_out = strips.white_texts(tree)
    if left_out == {}:
        return tree, tree.nodes
    return copied_tree(tree, left_out), [node for node in tree.nodes if node not in left_out]
