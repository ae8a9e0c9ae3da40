"""The contexts in which bodies of stylesheets are carried out."""

from pathloom.contexts import Context


class Situation(Context):
    """A current node with its place in the current list, a mode, a rule, visible variables, and a world.

    The rule is the template that was chosen for a node, or None.
    """

    def __init__(self, node, position, size, mode, rule, variables, world):
        Context.__init__(self, node, position, size, node, variables, world)
        self.mode = mode
        self.rule = rule

    def ask(self, path):
        """The value of a path, given as a function."""
        return path(self.node, self.position, self.size, self)

    def at_node(self, node, position, size):
        """The same with another current node, and without a rule."""
        return Situation(node, position, size, self.mode, None, self.variables, self.world)

    def with_variables(self, variables):
        """The same with other variables."""
        return Situation(self.node, self.position, self.size, self.mode, self.rule, variables, self.world)

    def for_sets(self):
        """The same as attribute sets have it: without a rule, and with global variables alone."""
        return Situation(self.node, self.position, self.size, self.mode, None, {}, self.world)
