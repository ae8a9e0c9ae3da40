"""The values of the trees of paths."""

from pathloom.axes import enough_starts, nodes_on, passing
from pathloom.decimals import OPERATION_OF, index_of_position, is_same, negated, number_of_text, operated, whole
from pathloom.functions import call
from pathloom.path_words import ANYTHING_BELOW, is_operation
from pathloom.trees import in_order
from pathloom.values import is_true_of, nodes_of, to_number, to_truth


def value_of(tree, context):
    """The value of a tree in a context."""
    # Down the first operands without recursion: rows of operators may be long.
    rows = []
    while is_operation(tree):
        rows.append(tree)
        tree = tree[1]
    value = value_of_operand(tree, context)
    for row in rows[::-1]:
        value = value_of_operation(row, value, context)
    return value


def value_of_operation(tree, value, context):
    """The value of an operator, of which the first operand has a value."""
    word = tree[0]
    if word == "neg":
        return ("number", negated(to_number(value)))
    if word in ("or", "and"):
        decided = to_truth(value)
        if decided != (word == "or"):
            decided = to_truth(value_of(tree[2], context))
        return ("truth", decided)
    if word == "union":
        nodes = nodes_of(value)
        return ("nodes", in_order(nodes + nodes_of(value_of(tree[2], context))))
    other = value_of(tree[2], context)
    if word in OPERATION_OF:
        return ("number", operated(word, to_number(value), to_number(other)))
    return ("truth", is_true_of(word, value, other))


def value_of_operand(tree, context):
    """The value of a tree that is no operator."""
    if tree[0] == "path":
        return ("nodes", take_steps(start_nodes(tree[1], context), tree[2], context))
    if tree[0] == "filter":
        nodes = nodes_of(value_of(tree[1], context))
        return ("nodes", pass_predicates(nodes, tree[2], context))
    if tree[0] == "call":
        return call(tree[1], context, [value_of(part, context) for part in tree[2]])
    if tree[0] == "var":
        return context.value_of_variable(tree[1])
    if tree[0] == "number":
        return ("number", number_of_text(tree[1]))
    return tree


def start_nodes(start, context):
    """The nodes at which a location path begins."""
    if start is None:
        return [context.node]
    if start == "root":
        return [context.node.tree.root]
    return nodes_of(value_of(start, context))


def take_steps(nodes, steps, context):
    """The nodes that steps lead to, one behind the other."""
    for axis, test, predicates in joined_steps(steps):
        nodes = take_step(nodes, axis, test, predicates, context)
    return nodes


def joined_steps(steps):
    """Steps that lead to the same nodes; of those that `//` ahead of a child is made of there is one."""
    found = []
    for step in steps:
        # With predicates they differ: positions are counted among the children.
        if found[-1:] == [ANYTHING_BELOW] and step[0] == "child" and step[2] == ():
            found[-1] = ("descendant", step[1], ())
        else:
            found.append(step)
    return found


def take_step(nodes, axis, test, predicates, context):
    """The nodes that a step leads to from some nodes in document order."""
    if predicates == ():
        nodes = enough_starts(axis, nodes)
    found = []
    for node in nodes:
        reached = passing(axis, test, nodes_on(axis, node))
        found.extend(pass_predicates(reached, predicates, context))
    return in_order(found)


def pass_predicates(nodes, predicates, context):
    """Those of some nodes that pass predicates, one behind the other."""
    for predicate in predicates:
        size = len(nodes)
        if predicate[0] == "number":
            nodes = nodes_at(nodes, number_of_text(predicate[1]))
        elif predicate == ("call", "last", ()):
            nodes = nodes[-1:]
        else:
            nodes = [node for at, node in enumerate(nodes) if is_passed(predicate, context.moved(node, at + 1, size))]
    return nodes


def nodes_at(nodes, position):
    """The node at a position, in a list; no nodes if there is none."""
    at = index_of_position(position)
    return nodes[at:at + 1] if at >= 0 else []


def is_passed(predicate, context):
    """Whether a context passes a predicate."""
    value = value_of(predicate, context)
    if value[0] == "number":
        return is_same(value[1], whole(context.position))
    return to_truth(value)
