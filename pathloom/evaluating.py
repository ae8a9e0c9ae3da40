"""The values of the trees of paths.

A tree becomes a function (node, position, size, scene) that gives its value
with this node as the context node; `scene` is the context of the whole path,
which has the current node, the variables and the world.
"""

from pathloom.decimals import OPERATION_OF, negated, number_of_text
from pathloom.functions import FUNCTION_IN_CONTEXT, FUNCTION_OF, takes_context_node
from pathloom.path_words import RANKS, is_operation, sort_of_value
from pathloom.steps import joined_steps, predicate_function, step_functions
from pathloom.trees import in_order
from pathloom.values import is_true_of, nodes_of, to_number, to_truth


def value_of(tree, context):
    """The value of a tree in a context."""
    function = compiled(tree)
    return function(context.node, context.position, context.size, context)


def compiled(tree):
    """The function of a tree."""
    word = tree[0]
    if word == "path":
        return path_function(tree[1], tree[2])
    if word in RANKS:
        return operator_function(tree)
    if word == "call":
        return function_of_call(tree[1], tree[2])
    if word == "filter":
        return filter_function(tree[1], tree[2])
    if word == "var":
        name = tree[1]
        return lambda node, position, size, scene: scene.value_of_variable(name)
    value = ("number", number_of_text(tree[1])) if word == "number" else tree
    return lambda node, position, size, scene: value


def predicates_of(trees):
    """The functions of predicates."""
    return [predicate_function(tree, sort_of_value(tree), compiled(tree)) for tree in trees]


def filter_function(tree, trees):
    """The function of a primary with predicates."""
    function = compiled(tree)
    passes = predicates_of(trees)

    def pass_all(node, position, size, scene):
        """The nodes of the primary that pass all predicates."""
        nodes = nodes_of(function(node, position, size, scene))
        for passing in passes:
            nodes = passing(nodes, scene)
        return ("nodes", nodes)

    return pass_all


def steps_functions(steps):
    """The functions of steps one behind the other, from one node and from some nodes."""
    pairs = [step_functions(axis, test, predicates_of(trees)) for axis, test, trees in joined_steps(steps)]
    if pairs == []:
        return own_node, own_nodes
    if len(pairs) == 1:
        return pairs[0]
    first_from_one, first = pairs[0]
    behind = [take for _, take in pairs[1:]]

    def take_all_from(node, scene):
        """The nodes that all steps lead to from one node."""
        nodes = first_from_one(node, scene)
        for take in behind:
            nodes = take(nodes, scene)
        return nodes

    def take_all(nodes, scene):
        """The nodes that all steps lead to from some nodes."""
        nodes = first(nodes, scene)
        for take in behind:
            nodes = take(nodes, scene)
        return nodes

    return take_all_from, take_all


def own_node(node, scene):
    """The node that no steps lead to from one node: itself."""
    return [node]


def own_nodes(nodes, scene):
    """The nodes that no steps lead to from some nodes: themselves."""
    return nodes


def path_function(start, steps):
    """The function of a location path."""
    take_from, take = steps_functions(steps)
    if start is None:
        return lambda node, position, size, scene: ("nodes", take_from(node, scene))
    if start == "root":
        return lambda node, position, size, scene: ("nodes", take_from(node.tree.root, scene))
    begin = compiled(start)

    def take_from_start(node, position, size, scene):
        """The nodes that the steps lead to from those of the start."""
        return ("nodes", take(nodes_of(begin(node, position, size, scene)), scene))

    return take_from_start


def function_of_call(word, trees):
    """The function of a call."""
    asks = [compiled(tree) for tree in trees]
    if takes_context_node(word, len(trees)):
        asks = [own_node_alone]
    if word in FUNCTION_IN_CONTEXT:
        in_context = FUNCTION_IN_CONTEXT[word]
        return lambda node, position, size, scene: in_context(
            [ask(node, position, size, scene) for ask in asks], node, position, size, scene
        )
    function = FUNCTION_OF[word]
    if len(asks) == 1:
        alone = asks[0]
        return lambda node, position, size, scene: function([alone(node, position, size, scene)])
    return lambda node, position, size, scene: function([ask(node, position, size, scene) for ask in asks])


def own_node_alone(node, position, size, scene):
    """The context node alone, as a list."""
    return ("nodes", [node])


def operator_function(tree):
    """The function of an operator with its operands."""
    # Down the first operands without recursion: rows of operators may be long.
    rows = []
    while is_operation(tree):
        rows.append(tree)
        tree = tree[1]
    first = compiled(tree)
    goes = []
    for row in rows[::-1]:
        second = compiled(row[2]) if len(row) > 2 else None
        goes.append(row_function(row[0], second))

    def operate(node, position, size, scene):
        """The value of all the operators, the one that binds most first."""
        value = first(node, position, size, scene)
        for go_on in goes:
            value = go_on(value, node, position, size, scene)
        return value

    return operate


def row_function(word, second):
    """The function (value, node, position, size, scene) of an operator of which the first operand has a value."""
    if word == "neg":
        return lambda value, node, position, size, scene: ("number", negated(to_number(value)))
    if word in ("or", "and"):
        return truth_row(second, word == "or")
    if word == "union":
        return union_row(second)
    if word not in OPERATION_OF:
        return lambda value, node, position, size, scene: (
            "truth", is_true_of(word, value, second(node, position, size, scene))
        )
    operation = OPERATION_OF[word]

    def calculate(value, node, position, size, scene):
        """The number that the operation makes."""
        other = second(node, position, size, scene)
        return ("number", operation(to_number(value), to_number(other)))

    return calculate


def truth_row(second, decides):
    """The function of `or` and `and`, of which a first operand that is true or false decides."""
    def decide(value, node, position, size, scene):
        """The truth of both."""
        if to_truth(value) == decides:
            return ("truth", decides)
        return ("truth", to_truth(second(node, position, size, scene)))

    return decide


def union_row(second):
    """The function of `|`."""
    def join(value, node, position, size, scene):
        """The nodes of both."""
        nodes = nodes_of(value)
        return ("nodes", in_order(nodes + nodes_of(second(node, position, size, scene))))

    return join
