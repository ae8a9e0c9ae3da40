"""The nodes of a tree by their places."""

from pathloom.errors import BadValue
from pathloom.trees import check_tree, string_value


def places(tree):
    """The places of all nodes, in document order."""
    check_tree(tree)
    found = [()]
    for node in tree.nodes[1:]:
        found.append(found[node.parent.order] + (node.part,))
    return found


def kind_at(tree, place):
    """The kind of the node at a place."""
    return node_at(tree, place).kind


def name_at(tree, place):
    """The name of the node at a place, None if it has none."""
    return node_at(tree, place).name


def string_at(tree, place):
    """The string value of the node at a place."""
    return string_value(node_at(tree, place))


def node_at(tree, place):
    """The node at a place; BadValue for what is no tree, then for what is no place of it."""
    check_tree(tree)
    node = node_in(tree, place)
    if node is None:
        raise BadValue("this is no place of a node")
    return node


def node_in(tree, place):
    """The node at a place, None for what is no place."""
    if not isinstance(place, tuple):
        return None
    node = tree.root
    for part in place:
        node = node_under(node, part)
        if node is None:
            return None
    return node


def node_under(node, part):
    """The child or the attribute that one part of a place leads to, None if there is none."""
    if isinstance(part, str):
        for attribute in node.attributes:
            if attribute.part == part:
                return attribute
        return None
    if not isinstance(part, int) or isinstance(part, bool):
        return None
    if part < 0 or part >= len(node.children):
        return None
    return node.children[part]
