"""The trees that are read, asked and made.

A tree is complete when it is made: from then on nothing changes its nodes.
"""

from pathloom.errors import BadValue


class Node:
    """One node: of a root and an element the text is empty, of what has no name it is None.

    `order` is its index in the document order of its tree, `end` that of the
    last node in it, itself among them.
    """

    __slots__ = ("kind", "name", "text", "attributes", "children", "parent", "part", "order", "end", "tree")

    def __init__(self, kind, name, text):
        self.kind = kind
        self.name = name
        self.text = text
        self.attributes = []
        self.children = []
        self.parent = None
        self.part = None
        self.order = 0
        self.end = 0
        self.tree = None

    def put_attribute(self, node):
        """Make a node the last attribute."""
        node.parent = self
        node.part = "@" + node.name
        self.attributes.append(node)

    def put_child(self, node):
        """Make a node the last child."""
        node.parent = self
        node.part = len(self.children)
        self.children.append(node)


class Tree:
    """A root with all that is in it, and the list of all these nodes in document order.

    Of several trees that are used together each has its own `number`.
    """

    def __init__(self, root):
        self.root = root
        self.number = 0
        self.nodes = nodes_in(root)
        for order, node in enumerate(self.nodes):
            node.order = order
            node.end = order
            node.tree = self
        for node in self.nodes[:0:-1]:
            above = node.parent
            if above.end < node.end:
                above.end = node.end


def nodes_in(top):
    """The list of a node and all nodes in it, in document order."""
    # A list of waiting nodes, not recursion: trees may be hundreds of levels deep.
    found = []
    waiting = [top]
    while waiting:
        node = waiting.pop()
        found.append(node)
        if node.attributes:
            found.extend(node.attributes)
        if node.children:
            waiting.extend(node.children[::-1])
    return found


def node_copies(tree, left_out):
    """Copies of all nodes of a tree, but of those texts that are keys of a dict, by the nodes themselves."""
    copies = {tree.root: Node("root", None, "")}
    for node in tree.nodes[1:]:
        if node not in left_out:
            copy = Node(node.kind, node.name, node.text)
            if node.kind == "attribute":
                copies[node.parent].put_attribute(copy)
            else:
                copies[node.parent].put_child(copy)
            copies[node] = copy
    return copies


def copied_tree(tree, left_out):
    """A copy of a tree without those texts that are keys of a dict."""
    return Tree(node_copies(tree, left_out)[tree.root])


def string_value(node):
    """The string value of a node."""
    if node.kind not in ("root", "element"):
        return node.text
    if len(node.children) < 2:
        if node.children == []:
            return ""
        if node.children[0].kind == "text":
            return node.children[0].text
    inside = node.tree.nodes[node.order:node.end + 1]
    return "".join([part.text for part in inside if part.kind == "text"])


def in_order(nodes):
    """Nodes in document order, each once."""
    if len(nodes) < 2:
        return list(nodes)
    tree = nodes[0].tree
    if [node for node in nodes if node.tree != tree] == []:
        return [tree.nodes[order] for order in sorted(set([node.order for node in nodes]))]
    found = {node: True for node in nodes}
    return sorted(list(found), key=place_in_order)


def place_in_order(node):
    """What nodes, also of several trees, are ordered by."""
    return (node.tree.number, node.order)


def place_of(node):
    """The place of a node in its tree."""
    parts = []
    while node.parent is not None:
        parts.append(node.part)
        node = node.parent
    return tuple(parts[::-1])


def places_of(nodes):
    """The places of nodes."""
    # Nodes beside one another have the way from the root to their parent in common.
    ways = {}
    found = []
    for node in nodes:
        above = node.parent
        if above is None:
            found.append(())
        else:
            if above not in ways:
                ways[above] = place_of(above)
            found.append((*ways[above], node.part))
    return found


def check_tree(tree):
    """Raise BadValue for what is no tree."""
    if not isinstance(tree, Tree):
        raise BadValue("this is no tree")
