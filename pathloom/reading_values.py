"""The values of paths, with notes of what their evaluation reads.

What is told of reading holds of each step, predicate and operand as it is
written, so that nothing is joined or left out here for the sake of speed.
"""

from pathloom.axes import NODES_ON, test_function
from pathloom.decimals import OPERATION_OF, negated, number_of_text
from pathloom.functions import FUNCTION_IN_CONTEXT, FUNCTION_OF, takes_context_node
from pathloom.path_words import is_operation
from pathloom.reading_notes import Notes
from pathloom.steps import is_passed
from pathloom.trees import in_order
from pathloom.values import is_true_of, nodes_of, to_number, to_truth

# The functions that take the text or the number of each of their arguments.
BY_TEXT = (
    "ceiling", "concat", "contains", "document", "floor", "key", "normalize-space", "number", "round", "starts-with",
    "string", "string-length", "substring", "substring-after", "substring-before", "translate",
)


class Place:
    """A context node with its position and the size."""

    def __init__(self, node, position, size):
        self.node = node
        self.position = position
        self.size = size


class Reader:
    """One evaluation in a context, with its notes."""

    def __init__(self, context):
        self.context = context
        self.notes = Notes()

    def value_of_tree(self, tree, here):
        """The value of a tree at a place."""
        # Down the first operands without recursion: rows of operators may be long.
        rows = []
        while is_operation(tree):
            rows.append(tree)
            tree = tree[1]
        value = self.value_of_operand(tree, here)
        for row in rows[::-1]:
            value = self.value_of_row(row, value, here)
        return value

    def value_of_row(self, tree, value, here):
        """The value of an operator, of which the first operand has a value."""
        word = tree[0]
        if word == "neg":
            self.notes.note_first_string(value)
            return ("number", negated(to_number(value)))
        if word in ("or", "and"):
            decided = to_truth(value)
            if decided != (word == "or"):
                decided = to_truth(self.value_of_tree(tree[2], here))
            return ("truth", decided)
        if word == "union":
            nodes = nodes_of(value)
            return ("nodes", in_order(nodes + nodes_of(self.value_of_tree(tree[2], here))))
        other = self.value_of_tree(tree[2], here)
        if word not in OPERATION_OF:
            if "truth" not in (value[0], other[0]):
                self.notes.note_strings(value)
                self.notes.note_strings(other)
            return ("truth", is_true_of(word, value, other))
        self.notes.note_first_string(value)
        self.notes.note_first_string(other)
        operation = OPERATION_OF[word]
        return ("number", operation(to_number(value), to_number(other)))

    def value_of_operand(self, tree, here):
        """The value of a tree that is no operator."""
        if tree[0] == "path":
            return ("nodes", self.take_steps(self.start_nodes(tree[1], here), tree[2]))
        if tree[0] == "filter":
            return ("nodes", self.pass_predicates(nodes_of(self.value_of_tree(tree[1], here)), tree[2]))
        if tree[0] == "call":
            return self.value_of_call(tree[1], tree[2], here)
        if tree[0] == "var":
            return self.context.value_of_variable(tree[1])
        if tree[0] == "number":
            return ("number", number_of_text(tree[1]))
        return tree

    def start_nodes(self, start, here):
        """The nodes at which a location path begins."""
        if start is None:
            return [here.node]
        if start == "root":
            self.notes.note_way_up(here.node)
            return [here.node.tree.root]
        return nodes_of(self.value_of_tree(start, here))

    def take_steps(self, nodes, steps):
        """The nodes that steps lead to."""
        for axis, test, predicates in steps:
            look = NODES_ON[axis]
            keep = test_function(axis, test)
            found = []
            for node in nodes:
                reached = look(node)
                self.notes.note_axis(axis, node)
                self.notes.note_test(test, reached)
                found.extend(self.pass_predicates(keep(reached), predicates))
            nodes = in_order(found)
        return nodes

    def pass_predicates(self, nodes, predicates):
        """Those of some nodes that pass predicates."""
        for predicate in predicates:
            size = len(nodes)
            found = []
            for at, node in enumerate(nodes):
                if is_passed(self.value_of_tree(predicate, Place(node, at + 1, size)), at + 1):
                    found.append(node)
            nodes = found
        return nodes

    def value_of_call(self, word, trees, here):
        """The value of a call."""
        values = [self.value_of_tree(tree, here) for tree in trees]
        if takes_context_node(word, len(trees)):
            values = [("nodes", [here.node])]
        self.note_call(word, values, here.node.tree)
        if word in FUNCTION_IN_CONTEXT:
            in_context = FUNCTION_IN_CONTEXT[word]
            return in_context(values, here.node, here.position, here.size, self.context)
        function = FUNCTION_OF[word]
        return function(values)

    def note_call(self, word, values, tree):
        """Note what a call reads, if the values of its arguments are there."""
        if word in BY_TEXT:
            for value in values:
                self.notes.note_first_string(value)
        elif word == "sum":
            self.notes.note_strings(values[0])
        elif word == "id":
            self.notes.note_strings(values[0])
            self.notes.note_ids(tree)
        elif word == "generate-id":
            self.notes.note_marks(tree)
        elif word in ("name", "local-name"):
            if values[0][0] == "nodes" and values[0][1] != []:
                self.notes.note_name(values[0][1][0])
