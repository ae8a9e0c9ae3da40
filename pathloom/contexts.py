"""What paths are evaluated in."""

from pathloom.errors import Failed


class World:
    """What a path can ask for besides its tree: keys, documents and variables; here there are none.

    A class below this one may have some of them.
    """

    def key_nodes_for(self, tree, name, words):
        """The nodes of a tree that have one of some words by the keys of a name."""
        raise Failed("key")

    def document_root(self, name):
        """The root of the document of a name."""
        raise Failed("document")

    def variable_value(self, name):
        """The value of a variable that is none of the context's own."""
        raise Failed("variable")


class Context:
    """A node, its position among `size` nodes, the current node, the variables that are set, and a world."""

    def __init__(self, node, position, size, current, variables, world):
        self.node = node
        self.position = position
        self.size = size
        self.current = current
        self.variables = variables
        self.world = world

    def value_of_variable(self, name):
        """The value of a variable."""
        if name in self.variables:
            return self.variables[name]
        return self.world.variable_value(name)


def start_context(node, world):
    """The context of a node alone, which is the current one, too."""
    return Context(node, 1, 1, node, {}, world)
