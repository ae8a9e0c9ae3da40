"""Paths as texts."""

from pathloom.errors import BadValue
from pathloom.path_reading import PathReader
from pathloom.path_writing import path_text


def tokens(text):
    """The tokens of a path: tuples (sort, text, place)."""
    reader = reader_of(text)
    reader.read_path()
    return reader.tokens[:-1]


def tree_of(text):
    """The tree of a path; NotPath tells how much of the text a path begins with."""
    return reader_of(text).read_path()


def reader_of(text):
    """A reader of a path; BadValue for what is no text."""
    if not isinstance(text, str):
        raise BadValue("a path is a text")
    return PathReader(text, False)


def canonical(text):
    """The canonical text of a path."""
    return path_text(tree_of(text), False)


def abbreviated(text):
    """The text of a path with abbreviated steps."""
    return path_text(tree_of(text), True)
