"""What the evaluation of a path reads of a tree."""

from pathloom.axes import nodes_above, nodes_ahead, nodes_behind

# The axes by what they read.
UP = ("ancestor", "ancestor-or-self")
DOWN = ("descendant", "descendant-or-self")
BESIDE = ("following-sibling", "preceding-sibling")


class Notes:
    """The parts (node, part) that were read, as the keys of `found`; `noted` is what need not be looked at again."""

    def __init__(self):
        self.found = {}
        self.noted = {}

    def is_new(self, sort, node):
        """Whether something sort by sort was not noted of a node yet."""
        if (sort, node) in self.noted:
            return False
        self.noted[(sort, node)] = True
        return True

    def note_children(self, node):
        """Note the children of a node, if it may have any."""
        if node.kind in ("root", "element"):
            self.found[(node, "children")] = True

    def note_parent(self, node):
        """Note the parent of a node, if it may have one."""
        if node.kind != "root":
            self.found[(node, "parent")] = True

    def note_way_up(self, node):
        """Note the parents of a node and of all above it."""
        if self.is_new("up", node):
            self.note_parent(node)
            for above in nodes_above(node):
                self.note_parent(above)

    def note_inside(self, node):
        """Note the children of a node and of all elements in it."""
        if self.is_new("inside", node):
            for part in node.tree.nodes[node.order:node.end + 1]:
                self.note_children(part)

    def note_axis(self, axis, node):
        """Note what an axis from a node reads."""
        if axis == "child":
            self.note_children(node)
        elif axis in DOWN:
            self.note_inside(node)
        elif axis == "attribute":
            if node.kind == "element":
                self.found[(node, "attributes")] = True
        elif axis == "parent":
            self.note_parent(node)
        elif axis in UP:
            self.note_way_up(node)
        elif axis in BESIDE:
            if node.kind not in ("attribute", "root"):
                self.note_parent(node)
                self.note_children(node.parent)
        elif axis in ("following", "preceding"):
            self.note_around(axis, node)

    def note_around(self, axis, node):
        """Note what following or preceding reads from a node."""
        self.note_way_up(node)
        if self.is_new(axis, node):
            for part in nodes_above(node) + (nodes_behind(node) if axis == "following" else nodes_ahead(node)):
                self.note_children(part)

    def note_test(self, test, nodes):
        """Note what a test of the nodes of an axis reads."""
        kind = None
        if test[0] == "name":
            kind = "element"
        elif test[0] == "kind" and test[2] is not None:
            kind = "instruction"
        for node in nodes:
            if node.kind == kind:
                self.found[(node, "name")] = True

    def note_name(self, node):
        """Note the name of an element or an instruction."""
        if node.kind in ("element", "instruction"):
            self.found[(node, "name")] = True

    def note_string(self, node):
        """Note the string of a node."""
        if node.kind not in ("root", "element"):
            self.found[(node, "text")] = True
        elif self.is_new("string", node):
            for part in node.tree.nodes[node.order:node.end + 1]:
                self.note_children(part)
                if part.kind == "text":
                    self.found[(part, "text")] = True

    def note_first_string(self, value):
        """Note the string of the first node of a value, if it is a list that has one."""
        if value[0] == "nodes" and value[1] != []:
            self.note_string(value[1][0])

    def note_strings(self, value):
        """Note the strings of all nodes of a value, if it is a list."""
        if value[0] == "nodes":
            for node in value[1]:
                self.note_string(node)

    def note_marks(self, tree):
        """Note what generate-id reads: all children and attributes of a tree."""
        if self.is_new("marks", tree.root):
            for node in tree.nodes:
                self.note_children(node)
                if node.kind == "element":
                    self.found[(node, "attributes")] = True

    def note_ids(self, tree):
        """Note what id reads besides its argument."""
        if self.is_new("ids", tree.root):
            self.note_marks(tree)
            for node in tree.nodes:
                if node.kind == "attribute" and node.name == "id":
                    self.found[(node, "text")] = True
