"""Paths and patterns, read from texts as trees."""

from pathloom.errors import NotPath
from pathloom.path_tokens import tokens_in
from pathloom.path_words import (
    ABOVE, ANYTHING_BELOW, AXES, FUNCTIONS, HERE, KINDS, OPERATOR_OF_SIGN, OPERATOR_WORDS, RANKS,
)

# What may stand right behind a name so that it is no test by this name.
BEHIND_OTHER_NAMES = ("::", "(", "broken")
LITERALS = ("number", "text", "open")
# What may stand right behind a name so that it is not alone a path.
BEHIND_LONGER_PATHS = ("::", "(", "broken", "[", "/", "//")


class PathReader:
    """One reading of a text: its tokens, and the index `at` of the next one.

    `kinds` are the signs of those tokens that are signs, the sorts of the
    others. NotPath is raised at the first sign with which no path goes on; a
    token with which none goes on may still begin with signs with which one
    does. In a text that is `closed` there are no variables and no current().
    """

    def __init__(self, text, closed):
        self.text = text
        self.closed = closed
        self.tokens = tokens_in(text)
        self.kinds = [token[1] if token[0] == "sign" else token[0] for token in self.tokens]
        self.at = 0

    def peek(self):
        """The next token."""
        return self.tokens[self.at]

    def peek_behind(self):
        """The token behind the next one, which is not the last one."""
        return self.tokens[self.at + 1]

    def has_sign(self, signs):
        """Whether the next token is one of some signs."""
        return self.kinds[self.at] in signs

    def take(self):
        """Read and return the next token."""
        token = self.tokens[self.at]
        self.at += 1
        return token

    def read_path(self):
        """Read the whole text as a path; return its tree."""
        tree = self.read_expression()
        if self.kinds[self.at] != "end":
            raise NotPath(self.end_behind_operand())
        return tree

    def read_expression(self):
        """Read operands and operators as far as they go."""
        operands = []
        # The operators that wait until it is known what binds their operands.
        waiting = []
        kinds = self.kinds
        while True:
            # A minus binds less than the | ahead of it, so that none can stand there.
            while kinds[self.at] == "-" and waiting[-1:] != ["union"]:
                self.at += 1
                waiting.append("neg")
            operands.append(self.read_operand())
            kind = kinds[self.at]
            word = self.operator_word() if kind == "name" else OPERATOR_OF_SIGN.get(kind)
            rank = RANKS[word] if word is not None else 0
            while waiting and RANKS[waiting[-1]] >= rank:
                bind(operands, waiting.pop())
            if word is None:
                return operands[0]
            self.at += 1
            waiting.append(word)

    def operator_word(self):
        """The name that stands here if it is an operator, otherwise None."""
        word = self.tokens[self.at][1]
        return word if word in OPERATOR_WORDS else None

    def end_behind_operand(self):
        """The place as far as which the next token can go on behind an operand, where it must not stand."""
        token = self.peek()
        if token[0] == "name":
            return token[2] + max([common_length(token[1], word) for word in OPERATOR_WORDS])
        if token[0] == "broken" and token[1] == "!":
            return token[2] + 1
        return token[2]

    def expect_behind_operand(self, sign):
        """Read a sign that must stand behind an operand."""
        if self.kinds[self.at] != sign:
            raise NotPath(self.end_behind_operand())
        self.at += 1

    def expect(self, sign):
        """Read a sign that must stand where nothing else can."""
        if self.kinds[self.at] != sign:
            raise NotPath(self.peek()[2])
        self.at += 1

    def read_operand(self):
        """Read a location path, or a primary with predicates and steps behind it."""
        kind = self.kinds[self.at]
        if kind == "name":
            behind = self.kinds[self.at + 1]
            if behind not in BEHIND_LONGER_PATHS:
                self.at += 1
                return ("path", None, (("child", ("name", self.tokens[self.at - 1][1]), ()),))
            if behind == "(" and self.is_function(self.tokens[self.at][1]):
                return self.read_behind(self.read_call())
        elif kind in LITERALS:
            return self.read_behind(self.read_literal())
        elif kind in ("/", "//"):
            return self.read_rooted()
        elif kind == "(":
            self.at += 1
            tree = self.read_expression()
            self.expect_behind_operand(")")
            return self.read_behind(tree)
        elif kind == "$" and not self.closed:
            return self.read_behind(self.read_variable())
        return ("path", None, tuple(self.read_steps([])))

    def read_literal(self):
        """Read a number or a text in quotation marks."""
        token = self.take()
        if token[0] == "number":
            return ("number", shortest_number(token[1]))
        return ("text", self.text_of_literal(token))

    def text_of_literal(self, token):
        """The text of a literal, without its quotation marks; all else can be no literal."""
        if token[0] == "open":
            raise NotPath(token[2] + len(token[1]))
        if token[0] != "text":
            raise NotPath(token[2])
        return token[1][1:-1]

    def read_variable(self):
        """Read the name of a variable, behind its sign without a blank."""
        place = self.take()[2]
        token = self.peek()
        if token[0] != "name" or token[2] != place + 1:
            raise NotPath(place + 1)
        self.at += 1
        self.check_colon(token)
        return ("var", token[1])

    def is_function(self, word):
        """Whether a word is that of a function that may be called here."""
        return word in FUNCTIONS and not (self.closed and word == "current")

    def read_call(self):
        """Read a call with as many arguments as its function has."""
        word = self.take()[1]
        self.at += 1
        least, most = FUNCTIONS[word]
        if most == 0 or least == 0 and self.kinds[self.at] == ")":
            self.expect(")")
            return ("call", word, ())
        trees = [self.read_expression()]
        while len(trees) < least or self.kinds[self.at] == "," and (most is None or len(trees) < most):
            self.expect_behind_operand(",")
            trees.append(self.read_expression())
        self.expect_behind_operand(")")
        return ("call", word, tuple(trees))

    def read_behind(self, tree):
        """Read the predicates and the steps behind a primary."""
        kind = self.kinds[self.at]
        if kind == "[":
            tree = ("filter", tree, self.read_predicates())
            kind = self.kinds[self.at]
        if kind != "/" and kind != "//":
            return tree
        steps = self.read_slash()
        return ("path", tree, tuple(self.read_steps(steps)))

    def read_slash(self):
        """Read `/` or `//`; return the list of the steps that it stands for."""
        return [ANYTHING_BELOW] if self.take()[1] == "//" else []

    def read_rooted(self):
        """Read a location path that begins at the root."""
        steps = self.read_slash()
        if steps == [] and not self.begins_step():
            return ("path", "root", ())
        return ("path", "root", tuple(self.read_steps(steps)))

    def begins_step(self):
        """Whether the next token, or its first sign, begins a step."""
        kind = self.kinds[self.at]
        if kind == "number":
            return self.tokens[self.at][1][0] == "."
        return kind in ("name", ".", "..", "@", "*")

    def read_steps(self, steps):
        """Read steps with slashes between them, and put them behind those that are there."""
        while True:
            steps.append(self.read_step())
            kind = self.kinds[self.at]
            if kind == "//":
                steps.append(ANYTHING_BELOW)
            elif kind != "/":
                return steps
            self.at += 1

    def read_step(self):
        """Read a step."""
        kind = self.kinds[self.at]
        if kind in (".", ".."):
            self.at += 1
            return HERE if kind == "." else ABOVE
        # The point of `.5` alone would be a step.
        if kind == "number" and self.begins_step():
            raise NotPath(self.peek()[2] + 1)
        return self.read_step_with(AXES)

    def read_step_with(self, axes):
        """Read a step with a test, and with one of some axes."""
        axis = "child"
        if self.kinds[self.at] == "name" and self.kinds[self.at + 1] not in BEHIND_OTHER_NAMES:
            test = ("name", self.tokens[self.at][1])
            self.at += 1
        else:
            axis = self.read_axis(axes)
            test = self.read_test()
        predicates = self.read_predicates() if self.kinds[self.at] == "[" else ()
        return (axis, test, predicates)

    def read_axis(self, axes):
        """Read an axis of those told, or what stands for one."""
        token = self.peek()
        if self.kinds[self.at] == "@":
            self.at += 1
            return "attribute"
        if token[0] == "name" and token[1] in axes:
            behind = self.peek_behind()
            if behind[1] == "::":
                self.at += 2
                return token[1]
            if behind[:2] == ("broken", ":"):
                raise NotPath(behind[2] + 1)
        return "child"

    def read_test(self):
        """Read a test."""
        token = self.peek()
        if self.kinds[self.at] == "*":
            self.at += 1
            return ("any",)
        if token[0] != "name":
            raise NotPath(token[2])
        self.at += 1
        self.check_colon(token)
        if self.kinds[self.at] != "(":
            return ("name", token[1])
        if token[1] not in KINDS:
            raise NotPath(self.peek()[2])
        return self.read_kind(KINDS[token[1]])

    def read_kind(self, kind):
        """Read the brackets of a test by the kind of nodes."""
        self.at += 1
        target = None
        if kind == "instruction" and self.kinds[self.at] != ")":
            target = self.text_of_literal(self.take())
        self.expect(")")
        return ("kind", kind, target)

    def check_colon(self, token):
        """Go on as far as a colon right behind a name, which could be one with a colon."""
        end = token[2] + len(token[1])
        if self.text[end:end + 1] == ":" and ":" not in token[1]:
            raise NotPath(end + 1)

    def read_predicates(self):
        """Read any number of predicates."""
        found = []
        while self.kinds[self.at] == "[":
            self.at += 1
            found.append(self.read_expression())
            self.expect_behind_operand("]")
        return tuple(found)


def bind(operands, word):
    """Put an operator with its operands, which stand last, into their place."""
    right = operands.pop()
    if word == "neg":
        operands.append(("neg", right))
    else:
        operands.append((word, operands.pop(), right))


def common_length(one, other):
    """How many signs two texts have in common at their begin."""
    many = 0
    while many < min(len(one), len(other)) and one[many] == other[many]:
        many += 1
    return many


def shortest_number(text):
    """The text of a number without zeros and a point that mean nothing."""
    if text[0] != "0" and "." not in text:
        return text
    front, _, fraction = text.partition(".")
    front = front.lstrip("0")
    fraction = fraction.rstrip("0")
    return (front if front != "" else "0") + ("." + fraction if fraction != "" else "")
