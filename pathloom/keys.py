"""Keys: which nodes of a tree have which words."""

from pathloom.contexts import World, start_context
from pathloom.errors import BadValue, Failed, NotPath
from pathloom.evaluating import compiled
from pathloom.patterns import nodes_that_fit, pattern_trees
from pathloom.paths import tokens, tree_of
from pathloom.signs import is_name
from pathloom.trees import in_order
from pathloom.values import texts_of


def read_key_rows(key_rows):
    """The keys (name, trees of the pattern, tree of the path) of rows of texts; errors row by row."""
    if not isinstance(key_rows, (list, tuple)):
        raise BadValue("the rows of keys are a list or a tuple")
    return [read_key_row(row) for row in key_rows]


def read_key_row(row):
    """The key of a row."""
    if not isinstance(row, tuple) or len(row) != 3:
        raise BadValue("a row of a key is a tuple of three texts")
    for part in row:
        if not isinstance(part, str):
            raise BadValue("a row of a key is a tuple of three texts")
    name, pattern, path = row
    if not is_name(name):
        raise BadValue("the name of a key is a name")
    return (name, pattern_trees(pattern), tree_without_variables(path))


def tree_without_variables(path):
    """The tree of a path; NotPath at the first variable in it."""
    tree = tree_of(path)
    for _, text, place in tokens(path):
        if text == "$":
            raise NotPath(place)
    return tree


class KeyWorld(World):
    """A world of keys.

    What was looked up once is kept: in `tables`, for each tree and name of a
    key, a dict from words to nodes; None while it is still looked up.
    """

    def __init__(self, keys):
        self.key_rows = keys
        self.tables = {}

    def key_nodes_for(self, tree, name, words):
        """The nodes of a tree that have one of some words by the keys of a name."""
        table = self.table_of(tree, name)
        found = []
        for word in words:
            found.extend(table.get(word, []))
        return in_order(found)

    def table_of(self, tree, name):
        """The table of the keys of a name in a tree."""
        if (tree, name) not in self.tables:
            rows = [row for row in self.key_rows if row[0] == name]
            if rows == []:
                raise Failed("key")
            self.tables[(tree, name)] = None
            self.tables[(tree, name)] = self.look_up(tree, rows)
        table = self.tables[(tree, name)]
        if table is None:
            raise Failed("circle")
        return table

    def look_up(self, tree, rows):
        """The table that some keys make in a tree."""
        table = {}
        for _, pattern, tree_of_path in rows:
            path = compiled(tree_of_path)
            for node in nodes_that_fit(pattern, tree, self):
                value = path(node, 1, 1, start_context(node, self))
                for word in {text: True for text in texts_of(value)}:
                    table.setdefault(word, []).append(node)
        return table
