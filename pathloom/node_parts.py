"""The parts of nodes: `children`, `attributes`, `name`, `text` and `parent`."""

from pathloom.trees import places_of

PARTS = ("children", "attributes", "name", "text", "parent")


def parts_in_order(tree, found):
    """The tuples (place, part) of parts that are the keys (node, part) of a dict, in document order."""
    nodes = [node for node in tree.nodes if has_any(node, found)]
    rows = []
    for node, place in zip(nodes, places_of(nodes)):
        rows.extend([(place, part) for part in PARTS if (node, part) in found])
    return rows


def has_any(node, found):
    """Whether a part of a node is among those that were found."""
    for part in PARTS:
        if (node, part) in found:
            return True
    return False
