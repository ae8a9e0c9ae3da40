"""Paths as texts."""

from pathloom.errors import BadValue
from pathloom.path_reading import PathReader
from pathloom.path_tokens import tokens_in
from pathloom.path_writing import path_text


def tokens(text):
    """The tokens of a path: tuples (sort, text, place)."""
    tree_of(text)
    return tokens_in(text)[:-1]


def tree_of(text):
    """The tree of a path; NotPath tells how much of the text a path begins with."""
    if not isinstance(text, str):
        raise BadValue("a path is a text")
    return PathReader(text, False).read_path()


def canonical(text):
    """The canonical text of a path."""
    return path_text(tree_of(text), False)


def abbreviated(text):
    """The text of a path with abbreviated steps."""
    return path_text(tree_of(text), True)
