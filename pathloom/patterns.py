"""Patterns: paths of told forms that nodes fit."""

from pathloom.contexts import start_context
from pathloom.errors import NotPath, NotPattern
from pathloom.evaluating import steps_functions, value_of
from pathloom.path_reading import PathReader
from pathloom.path_writing import path_text, steps_text
from pathloom.trees import in_order

PATTERN_AXES = ("attribute", "child")
LITERALS_OF = {"key": 2, "id": 1}


def pattern_trees(text):
    """The list of the trees of a pattern's alternatives; NotPattern at the first sign that none goes on with."""
    try:
        return PatternReader(text).read_pattern()
    except NotPath as stuck:
        raise NotPattern(stuck.at) from None


class PatternReader:
    """One reading of a text as a pattern, by a reader of paths for what is the same in both."""

    def __init__(self, text):
        self.reader = PathReader(text, True)

    def read_pattern(self):
        """Read the whole text; return the list of the trees of the alternatives."""
        trees = [self.read_alternative()]
        while self.reader.has_sign(("|",)):
            self.reader.take()
            trees.append(self.read_alternative())
        token = self.reader.peek()
        if token[0] != "end":
            raise NotPath(token[2])
        return trees

    def read_alternative(self):
        """Read one alternative."""
        reader = self.reader
        if reader.has_sign(("/", "//")):
            steps = reader.read_slash()
            if steps == [] and not self.goes_on():
                return ("path", "root", ())
            return ("path", "root", self.read_pattern_steps(steps))
        if self.is_call_of_literals():
            start = self.read_call_of_literals()
            if not reader.has_sign(("/", "//")):
                return start
            return ("path", start, self.read_pattern_steps(reader.read_slash()))
        return ("path", None, self.read_pattern_steps([]))

    def goes_on(self):
        """Whether a step of a pattern begins here."""
        return self.reader.peek()[0] == "name" or self.reader.has_sign(("@", "*"))

    def is_call_of_literals(self):
        """Whether a call of key or id stands here."""
        token = self.reader.peek()
        return token[0] == "name" and token[1] in LITERALS_OF and self.reader.peek_behind()[:2] == ("sign", "(")

    def read_call_of_literals(self):
        """Read a call of key or id, whose arguments are texts in quotation marks."""
        reader = self.reader
        word = reader.take()[1]
        reader.expect("(")
        trees = [("text", reader.text_of_literal(reader.take()))]
        while len(trees) < LITERALS_OF[word]:
            reader.expect(",")
            trees.append(("text", reader.text_of_literal(reader.take())))
        reader.expect(")")
        return ("call", word, tuple(trees))

    def read_pattern_steps(self, steps):
        """Read steps with slashes between them, and put them behind those that are there."""
        reader = self.reader
        steps.append(reader.read_step_with(PATTERN_AXES))
        while reader.has_sign(("/", "//")):
            steps.extend(reader.read_slash())
            steps.append(reader.read_step_with(PATTERN_AXES))
        return tuple(steps)


def alternative_text(tree):
    """The canonical text of an alternative; `//` stays between its own steps and ahead of them."""
    if tree[0] == "call" or tree[2] == ():
        return path_text(tree, False)
    start = path_text(tree[1], False) if tree[1] not in (None, "root") else ""
    return start + steps_text(tree[2], tree[1] is not None, True, False)


def is_relative(tree):
    """Whether an alternative is steps alone; a call has its word where others have their start."""
    return tree[1] is None


def priority_of(tree):
    """The default priority of an alternative, as a text."""
    if not is_relative(tree) or len(tree[2]) > 1 or tree[2][0][2] != ():
        return "0.5"
    test = tree[2][0][1]
    is_named = test[0] == "name" or test[0] == "kind" and test[2] is not None
    return "0" if is_named else "-0.5"


def nodes_that_fit(trees, tree, world):
    """The nodes of a tree that fit a pattern, given by the trees of its alternatives, in document order."""
    found = []
    for alternative in trees:
        found.extend(nodes_of_alternative(alternative, tree, world))
    return in_order(found) if len(trees) > 1 else found


def nodes_of_alternative(alternative, tree, world):
    """The nodes of a tree that fit an alternative."""
    context = start_context(tree.root, world)
    if is_relative(alternative):
        # To begin at every node at once is to ask each node and all nodes above it.
        _, take = steps_functions(alternative[2])
        return take(tree.nodes, context)
    return value_of(alternative, context)[1]
