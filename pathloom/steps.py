"""Steps and predicates of paths, made into functions.

A step becomes a function from nodes in document order to the nodes that it
leads to, in document order; a predicate one from nodes to those that pass.
Both take the context of the whole path, too.
"""

from pathloom.axes import BACKWARD, NODES_ON, enough_starts, nodes_with_axis, test_function
from pathloom.decimals import UNIT, index_of_position, number_of_text
from pathloom.path_words import ANYTHING_BELOW
from pathloom.trees import in_order


def joined_steps(steps):
    """Steps that lead to the same nodes; of those that `//` ahead of a child is made of there is one."""
    found = []
    for step in steps:
        # With predicates they differ: positions are counted among the children.
        if found[-1:] == [ANYTHING_BELOW] and step[0] == "child" and step[2] == ():
            found[-1] = ("descendant", step[1], ())
        else:
            found.append(step)
    return found


def step_functions(axis, test, passes):
    """The functions of a step, from one node and from some nodes; those of its predicates are there already."""
    look = NODES_ON[axis]
    keep = test_function(axis, test)
    is_back = axis in BACKWARD

    def take_ahead(node, scene):
        """The nodes from one node, in the direction of the axis."""
        found = keep(look(node))
        for passing in passes:
            found = passing(found, scene)
        return found

    def take_back(node, scene):
        """The nodes from one node, in document order, of an axis against it."""
        return take_ahead(node, scene)[::-1]

    take_from = take_back if is_back else take_ahead

    def take(nodes, scene):
        """The nodes from all of some nodes."""
        if len(nodes) == 1:
            return take_from(nodes[0], scene)
        starts = nodes_with_axis(axis, nodes) if passes != [] else enough_starts(axis, nodes)
        found = []
        for node in starts:
            found.extend(take_ahead(node, scene))
        return found if is_in_order(axis, starts) else in_order(found)

    return take_from, take


def existence_function(axis, test):
    """The function of a predicate that is a step without predicates."""
    look = NODES_ON[axis]
    keep = test_function(axis, test)
    return lambda nodes, scene: [node for node in nodes if keep(look(node))]


def is_in_order(axis, nodes):
    """Whether what an axis leads to from some nodes, from one behind the other, is in order, each once."""
    if axis in ("self", "attribute"):
        return True
    if axis not in ("child", "descendant"):
        return False
    end = -1
    for node in nodes:
        if node.order <= end:
            return False
        end = node.end
    return True


def predicate_function(tree, sort, function):
    """The function of a predicate, given by its tree, the sort of its value if this is known, and its function."""
    if tree[0] == "number":
        return position_function(index_of_position(number_of_text(tree[1])))
    if tree == ("call", "last", ()):
        return last_node
    if tree[0] == "path" and tree[1] is None and len(tree[2]) == 1 and tree[2][0][2] == ():
        return existence_function(tree[2][0][0], tree[2][0][1])
    if sort in ("nodes", "text", "truth"):
        # What is not empty is true, and True is.
        return lambda nodes, scene: [
            node for at, node in enumerate(nodes) if function(node, at + 1, len(nodes), scene)[1]
        ]

    def pass_any(nodes, scene):
        """The nodes that pass, where the value may be a number."""
        size = len(nodes)
        return [node for at, node in enumerate(nodes) if is_passed(function(node, at + 1, size, scene), at + 1)]

    return pass_any


def position_function(at):
    """The function of a predicate that is passed at one index alone, below zero at none."""
    if at < 0:
        return lambda nodes, scene: []
    return lambda nodes, scene: nodes[at:at + 1]


def last_node(nodes, scene):
    """The last node alone."""
    return nodes[-1:]


def is_passed(value, position):
    """Whether a value of a predicate lets a node at a position pass."""
    if value[0] == "number":
        return value[1] == position * UNIT
    return value[0] == "fragment" or bool(value[1])
