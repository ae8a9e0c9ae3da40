"""Paths and patterns, read from texts as trees."""

from pathloom.errors import NotPath
from pathloom.path_tokens import tokens_in
from pathloom.path_words import (
    ABOVE, ANYTHING_BELOW, AXES, FUNCTIONS, HERE, KINDS, OPERATOR_SIGNS, OPERATOR_WORDS, RANKS,
)


class PathReader:
    """One reading of a text: its tokens, and the index `at` of the next one.

    NotPath is raised at the first sign with which no path goes on; a token
    with which none goes on may still begin with signs with which one does.
    In a text that is `closed` there are no variables and no current().
    """

    def __init__(self, text, closed):
        self.text = text
        self.closed = closed
        self.tokens = tokens_in(text)
        self.at = 0

    def peek(self):
        """The next token."""
        return self.tokens[self.at]

    def peek_behind(self):
        """The token behind the next one, which is not the last one."""
        return self.tokens[self.at + 1]

    def has_sign(self, signs):
        """Whether the next token is one of some signs."""
        token = self.peek()
        return token[0] == "sign" and token[1] in signs

    def take(self):
        """Read and return the next token."""
        token = self.tokens[self.at]
        self.at += 1
        return token

    def read_path(self):
        """Read the whole text as a path; return its tree."""
        tree = self.read_expression()
        if self.peek()[0] != "end":
            raise NotPath(self.end_behind_operand())
        return tree

    def read_expression(self):
        """Read operands and operators as far as they go."""
        row = OperatorRow()
        while True:
            # A minus binds less than the | ahead of it, so that none can stand there.
            while self.has_sign(("-",)) and not row.ends_with("union"):
                self.take()
                row.put_minus()
            row.put_operand(self.read_operand())
            word = self.read_operator()
            if word is None:
                return row.finished()
            row.put_operator(word)

    def read_operator(self):
        """Read the operator that stands here; None if none does."""
        token = self.peek()
        if token[0] == "sign" and token[1] in OPERATOR_SIGNS or token[0] == "name" and token[1] in OPERATOR_WORDS:
            self.take()
            return "union" if token[1] == "|" else token[1]
        return None

    def end_behind_operand(self):
        """The place as far as which the next token can go on behind an operand, where it must not stand."""
        token = self.peek()
        if token[0] == "name":
            return token[2] + max([common_length(token[1], word) for word in OPERATOR_WORDS])
        if token[0] == "broken" and token[1] == "!":
            return token[2] + 1
        return token[2]

    def expect_behind_operand(self, sign):
        """Read a sign that must stand behind an operand."""
        if not self.has_sign((sign,)):
            raise NotPath(self.end_behind_operand())
        self.take()

    def expect(self, sign):
        """Read a sign that must stand where nothing else can."""
        if not self.has_sign((sign,)):
            raise NotPath(self.peek()[2])
        self.take()

    def read_operand(self):
        """Read a location path, or a primary with predicates and steps behind it."""
        token = self.peek()
        if token[0] in ("text", "number", "open"):
            return self.read_behind(self.read_literal())
        if self.has_sign(("(",)):
            self.take()
            tree = self.read_expression()
            self.expect_behind_operand(")")
            return self.read_behind(tree)
        if self.has_sign(("$",)) and not self.closed:
            return self.read_behind(self.read_variable())
        if self.is_call():
            return self.read_behind(self.read_call())
        if self.has_sign(("/", "//")):
            return self.read_rooted()
        return ("path", None, tuple(self.read_steps([])))

    def read_literal(self):
        """Read a number or a text in quotation marks."""
        token = self.take()
        if token[0] == "number":
            return ("number", shortest_number(token[1]))
        return ("text", self.text_of_literal(token))

    def text_of_literal(self, token):
        """The text of a literal, without its quotation marks; all else can be no literal."""
        if token[0] == "open":
            raise NotPath(token[2] + len(token[1]))
        if token[0] != "text":
            raise NotPath(token[2])
        return token[1][1:-1]

    def read_variable(self):
        """Read the name of a variable, behind its sign without a blank."""
        place = self.take()[2]
        token = self.peek()
        if token[0] != "name" or token[2] != place + 1:
            raise NotPath(place + 1)
        self.take()
        self.check_colon(token)
        return ("var", token[1])

    def is_call(self):
        """Whether a call stands here."""
        token = self.peek()
        if token[0] != "name" or token[1] not in FUNCTIONS or self.closed and token[1] == "current":
            return False
        return self.peek_behind()[:2] == ("sign", "(")

    def read_call(self):
        """Read a call with as many arguments as its function has."""
        word = self.take()[1]
        self.take()
        least, most = FUNCTIONS[word]
        if most == 0 or least == 0 and self.has_sign((")",)):
            self.expect(")")
            return ("call", word, ())
        trees = [self.read_expression()]
        while len(trees) < least or self.has_sign((",",)) and (most is None or len(trees) < most):
            self.expect_behind_operand(",")
            trees.append(self.read_expression())
        self.expect_behind_operand(")")
        return ("call", word, tuple(trees))

    def read_behind(self, tree):
        """Read the predicates and the steps behind a primary."""
        predicates = self.read_predicates()
        if predicates != ():
            tree = ("filter", tree, predicates)
        if not self.has_sign(("/", "//")):
            return tree
        steps = self.read_slash()
        return ("path", tree, tuple(self.read_steps(steps)))

    def read_slash(self):
        """Read `/` or `//`; return the list of the steps that it stands for."""
        return [ANYTHING_BELOW] if self.take()[1] == "//" else []

    def read_rooted(self):
        """Read a location path that begins at the root."""
        steps = self.read_slash()
        if steps == [] and not self.begins_step():
            return ("path", "root", ())
        return ("path", "root", tuple(self.read_steps(steps)))

    def begins_step(self):
        """Whether the next token, or its first sign, begins a step."""
        token = self.peek()
        if token[0] == "number":
            return token[1][0] == "."
        return token[0] == "name" or self.has_sign((".", "..", "@", "*"))

    def read_steps(self, steps):
        """Read steps with slashes between them, and put them behind those that are there."""
        steps.append(self.read_step())
        while self.has_sign(("/", "//")):
            steps.extend(self.read_slash())
            steps.append(self.read_step())
        return steps

    def read_step(self):
        """Read a step."""
        token = self.peek()
        if self.has_sign((".", "..")):
            self.take()
            return HERE if token[1] == "." else ABOVE
        # The point of `.5` alone would be a step.
        if token[0] == "number" and self.begins_step():
            raise NotPath(token[2] + 1)
        axis = self.read_axis(AXES)
        return (axis, self.read_test(), self.read_predicates())

    def read_axis(self, axes):
        """Read an axis of those told, or what stands for one."""
        token = self.peek()
        if self.has_sign(("@",)):
            self.take()
            return "attribute"
        if token[0] == "name" and token[1] in axes:
            behind = self.peek_behind()
            if behind[:2] == ("sign", "::"):
                self.take()
                self.take()
                return token[1]
            if behind[:2] == ("broken", ":"):
                raise NotPath(behind[2] + 1)
        return "child"

    def read_test(self):
        """Read a test."""
        token = self.peek()
        if self.has_sign(("*",)):
            self.take()
            return ("any",)
        if token[0] != "name":
            raise NotPath(token[2])
        self.take()
        self.check_colon(token)
        if not self.has_sign(("(",)):
            return ("name", token[1])
        if token[1] not in KINDS:
            raise NotPath(self.peek()[2])
        return self.read_kind(KINDS[token[1]])

    def read_kind(self, kind):
        """Read the brackets of a test by the kind of nodes."""
        self.take()
        target = None
        if kind == "instruction" and not self.has_sign((")",)):
            target = self.text_of_literal(self.take())
        self.expect(")")
        return ("kind", kind, target)

    def check_colon(self, token):
        """Go on as far as a colon right behind a name, which could be one with a colon."""
        end = token[2] + len(token[1])
        if self.text[end:end + 1] == ":" and ":" not in token[1]:
            raise NotPath(end + 1)

    def read_predicates(self):
        """Read any number of predicates."""
        found = []
        while self.has_sign(("[",)):
            self.take()
            found.append(self.read_expression())
            self.expect_behind_operand("]")
        return tuple(found)


class OperatorRow:
    """The operands and operators of one expression, which wait until it is known what binds them."""

    def __init__(self):
        self.operands = []
        self.waiting = []

    def ends_with(self, word):
        """Whether an operator waits last."""
        return self.waiting[-1:] == [word]

    def put_minus(self):
        """Put a `-` ahead of an operand."""
        self.waiting.append("neg")

    def put_operand(self, tree):
        """Put an operand behind the operator that waits last."""
        self.operands.append(tree)

    def put_operator(self, word):
        """Put an operator of two operands behind the last operand."""
        self.bind(RANKS[word])
        self.waiting.append(word)

    def bind(self, rank):
        """Bind all that binds at least as much as a rank."""
        while self.waiting and RANKS[self.waiting[-1]] >= rank:
            word = self.waiting.pop()
            right = self.operands.pop()
            if word == "neg":
                self.operands.append(("neg", right))
            else:
                self.operands.append((word, self.operands.pop(), right))

    def finished(self):
        """The tree of them all."""
        self.bind(0)
        return self.operands[0]


def common_length(one, other):
    """How many signs two texts have in common at their begin."""
    many = 0
    while many < min(len(one), len(other)) and one[many] == other[many]:
        many += 1
    return many


def shortest_number(text):
    """The text of a number without zeros and a point that mean nothing."""
    whole, _, fraction = text.partition(".")
    whole = whole.lstrip("0")
    fraction = fraction.rstrip("0")
    return (whole if whole != "" else "0") + ("." + fraction if fraction != "" else "")
