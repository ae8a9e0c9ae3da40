"""The nodes that axes lead to, each axis in its own direction, and the tests that they pass."""


def child_nodes(node):
    """The children of a node."""
    return node.children


def attribute_nodes(node):
    """The attributes of a node."""
    return node.attributes


def no_nodes(node):
    """No nodes at all: there are no namespaces."""
    return []


def own_node(node):
    """A node alone."""
    return [node]


def parent_node(node):
    """The parent of a node."""
    return [node.parent] if node.parent is not None else []


def nodes_above(node):
    """The parent of a node, the parent of this, and so on."""
    found = []
    while node.parent is not None:
        node = node.parent
        found.append(node)
    return found


def node_and_above(node):
    """A node and all above it."""
    return [node] + nodes_above(node)


def without_attributes(nodes):
    """Those of some nodes that are no attributes."""
    return [node for node in nodes if node.kind != "attribute"]


def nodes_below(node):
    """All nodes in a node, without attributes."""
    return without_attributes(node.tree.nodes[node.order + 1:node.end + 1])


def node_and_below(node):
    """A node and all in it, without attributes."""
    return [node] + nodes_below(node)


def nodes_behind(node):
    """All nodes behind a node and not in it, without attributes."""
    return without_attributes(node.tree.nodes[node.end + 1:])


def nodes_ahead(node):
    """All nodes ahead of a node that are not above it, without attributes, the next one first."""
    ahead = node.tree.nodes[:node.order]
    return [other for other in ahead[::-1] if other.end < node.order and other.kind != "attribute"]


def siblings_behind(node):
    """The children of the same parent behind a node."""
    if node.kind in ("attribute", "root"):
        return []
    return node.parent.children[node.part + 1:]


def siblings_ahead(node):
    """The children of the same parent ahead of a node, the next one first."""
    if node.kind in ("attribute", "root"):
        return []
    return node.parent.children[:node.part][::-1]


NODES_ON = {
    "ancestor": nodes_above, "ancestor-or-self": node_and_above, "attribute": attribute_nodes, "child": child_nodes,
    "descendant": nodes_below, "descendant-or-self": node_and_below, "following": nodes_behind,
    "following-sibling": siblings_behind, "namespace": no_nodes, "parent": parent_node, "preceding": nodes_ahead,
    "preceding-sibling": siblings_ahead, "self": own_node,
}


# Their direction is against document order.
BACKWARD = ("ancestor", "ancestor-or-self", "parent", "preceding", "preceding-sibling")


def test_function(axis, test):
    """The function that gives those of some nodes of an axis that pass a test."""
    kind, name = told_by(axis, test)
    if kind is None:
        return all_of
    if name is None:
        return lambda nodes: [node for node in nodes if node.kind == kind]
    return lambda nodes: [node for node in nodes if node.name == name and node.kind == kind]


def told_by(axis, test):
    """The kind and the name of the nodes of an axis that pass a test, None for any."""
    if test[0] == "kind":
        return (None if test[1] == "node" else test[1], test[2])
    return ("attribute" if axis == "attribute" else "element", test[1] if test[0] == "name" else None)


def all_of(nodes):
    """All of some nodes."""
    return nodes


def nodes_with_axis(axis, nodes):
    """Some nodes without such as have no nodes on an axis, where this is seen at once."""
    if axis == "child":
        return [node for node in nodes if node.children]
    if axis == "attribute":
        return [node for node in nodes if node.attributes]
    return nodes


def enough_starts(axis, nodes):
    """Those of some nodes in document order whose nodes of an axis are the nodes from all of them."""
    if axis in ("child", "attribute"):
        return nodes_with_axis(axis, nodes)
    if axis in ("descendant", "descendant-or-self"):
        return outermost(nodes)
    if axis == "following":
        least = {}
        for node in nodes:
            if node.tree not in least or node.end < least[node.tree].end:
                least[node.tree] = node
        return list(least.values())
    if axis == "preceding":
        return list({node.tree: node for node in nodes}.values())
    if axis == "preceding-sibling":
        return list({node.parent: node for node in nodes if node.kind != "attribute"}.values())
    if axis == "following-sibling":
        return list({node.parent: node for node in nodes[::-1] if node.kind != "attribute"}.values())
    return nodes


def outermost(nodes):
    """Those of some nodes in document order that are in no other one of them, and the attributes."""
    found = []
    last = None
    for node in nodes:
        # What is below a node are no attributes, so that these stand for themselves.
        if node.kind == "attribute":
            found.append(node)
        elif last is None or node.tree != last.tree or node.order > last.end:
            found.append(node)
            last = node
    return found
