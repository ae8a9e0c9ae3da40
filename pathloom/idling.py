"""What edits of documents turn in the results of stylesheets."""

from pathloom.edits import edited
from pathloom.errors import Failed
from pathloom.running import check_arguments, outcome


def turns(sheet, tree, edit, params=None, documents=None):
    """Whether a stylesheet makes another outcome of a document behind an edit."""
    check_arguments(sheet, tree, params, documents)
    new_tree = edited(tree, edit)
    return told_outcome(sheet, tree, params, documents) != told_outcome(sheet, new_tree, params, documents)


def told_outcome(sheet, tree, params, documents):
    """The text and the messages of a result, or the word of a failure."""
    try:
        return outcome(sheet, tree, params, documents)
    except Failed as failure:
        return failure.fault
