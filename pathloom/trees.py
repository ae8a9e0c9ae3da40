"""The trees that are read, asked and made.

A tree is complete when it is made: from then on nothing changes its nodes.
"""

from pathloom.errors import BadValue


class Node:
    """One node: of a root and an element the text is empty, of what has no name it is None."""

    def __init__(self, kind, name, text):
        self.kind = kind
        self.name = name
        self.text = text
        self.attributes = []
        self.children = []
        self.parent = None
        self.part = None
        self.order = 0

    def put_attribute(self, node):
        """Make a node the last attribute."""
        node.parent = self
        node.part = "@" + node.name
        self.attributes.append(node)

    def put_child(self, node):
        """Make a node the last child."""
        node.parent = self
        node.part = len(self.children)
        self.children.append(node)


class Tree:
    """A root with all that is in it, and the list of all these nodes in document order."""

    def __init__(self, root):
        self.root = root
        self.nodes = nodes_in(root)
        for order, node in enumerate(self.nodes):
            node.order = order


def nodes_in(top):
    """The list of a node and all nodes in it, in document order."""
    # A list of waiting nodes, not recursion: trees may be hundreds of levels deep.
    found = []
    waiting = [top]
    while waiting:
        node = waiting.pop()
        found.append(node)
        found.extend(node.attributes)
        waiting.extend(node.children[::-1])
    return found


def string_value(node):
    """The string value of a node."""
    if node.kind not in ("root", "element"):
        return node.text
    return "".join([part.text for part in nodes_in(node) if part.kind == "text"])


def check_tree(tree):
    """Raise BadValue for what is no tree."""
    if not isinstance(tree, Tree):
        raise BadValue("this is no tree")
