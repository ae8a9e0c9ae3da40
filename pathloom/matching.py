"""Patterns and keys on trees."""

from pathloom.errors import BadValue
from pathloom.keys import KeyWorld, read_key_rows
from pathloom.patterns import alternative_text, nodes_that_fit, pattern_trees, priority_of
from pathloom.signs import is_name
from pathloom.trees import check_tree, places_of


def pattern_text(text):
    """The canonical text of a pattern."""
    return " | ".join([alternative_text(tree) for tree in checked_pattern(text)])


def alternatives_of(text):
    """The alternatives of a pattern: tuples (canonical text, default priority as a text)."""
    return [(alternative_text(tree), priority_of(tree)) for tree in checked_pattern(text)]


def fitting(text, tree, key_rows=()):
    """The places of all nodes of a tree that fit a pattern, in document order."""
    trees = checked_pattern(text)
    check_tree(tree)
    world = KeyWorld(read_key_rows(key_rows))
    return places_of(nodes_that_fit(trees, tree, world))


def key_nodes(tree, key_rows, key_name, word):
    """The places of the nodes that key(key_name, word) gives in a tree, in document order."""
    check_tree(tree)
    world = KeyWorld(read_key_rows(key_rows))
    if not isinstance(key_name, str) or not is_name(key_name):
        raise BadValue("the name of a key is a name")
    if not isinstance(word, str):
        raise BadValue("a word is a text")
    return places_of(world.key_nodes_for(tree, key_name, [word]))


def checked_pattern(text):
    """The trees of the alternatives of a pattern; BadValue for what is no text."""
    if not isinstance(text, str):
        raise BadValue("a pattern is a text")
    return pattern_trees(text)
