"""A second reader of paths, by the grammar of XPath 1.0, and texts of trees written in many ways.

It shares nothing with the program: a pattern cuts the tokens, and one
function for each rule of the grammar returns a tree, or raises Wrong.
"""

import re

TOKEN = re.compile(r"""\s*(?:
    (?P<name>[A-Za-z_][A-Za-z0-9_.-]*(?::[A-Za-z_][A-Za-z0-9_.-]*)?)
  | (?P<number>[0-9]+(?:\.[0-9]*)?|\.[0-9]+)
  | (?P<text>'[\t\n -~]*?'|"[\t\n -~]*?")
  | (?P<sign>::|//|\.\.|!=|<=|>=|[/.@$*|+=<>()\[\],-])
)""", re.X)
ZERO = "current false last position true".split()
OPTIONAL = "generate-id local-name name normalize-space number string string-length".split()
ONE = "boolean ceiling count document floor id not round sum".split()
TWO = "contains key starts-with substring-after substring-before".split()
ARITIES = {**{word: {0} for word in ZERO}, **{word: {0, 1} for word in OPTIONAL}, **{word: {1} for word in ONE},
           **{word: {2} for word in TWO}, "substring": {2, 3}, "translate": {3}, "concat": set(range(2, 400))}
AXES = ("ancestor ancestor-or-self attribute child descendant descendant-or-self following following-sibling "
        "namespace parent preceding preceding-sibling self").split()
KINDS = {"node": "node", "text": "text", "comment": "comment", "processing-instruction": "instruction"}
LEVELS = [("or",), ("and",), ("=", "!="), ("<", "<=", ">", ">="), ("+", "-"), ("*", "div", "mod")]
DEEP = ("descendant-or-self", ("kind", "node", None), ())


class Wrong(Exception):
    pass


def cut(text):
    """All tokens, with those that are operators told as such."""
    found, at = [], 0
    text = text.rstrip(" \t\n")
    while at < len(text):
        match = TOKEN.match(text, at)
        if match is None:
            raise Wrong
        sort = match.lastgroup
        word = match.group(sort)
        if sort == "name" and found and found[-1] == ("sign", "$") and match.start("name") != at:
            raise Wrong
        ends = found and not (found[-1][1] in ("@", "::", "(", "[", ",", "/", "//", "$") and found[-1][0] == "sign"
                              or found[-1][0] == "operator")
        if ends and (word == "*" and sort == "sign" or sort == "name"):
            if word not in ("*", "and", "or", "div", "mod"):
                raise Wrong
            sort = "operator"
        elif sort == "sign" and word in "= != < <= > >= + - |".split():
            sort = "operator"
        found.append((sort, word))
        at = match.end()
    return found


class Second:
    def __init__(self, text):
        self.rest = cut(text) + [("end", "")]

    def next(self, *wanted):
        if self.rest[0] in wanted:
            return self.rest.pop(0)[1]
        return None

    def must(self, word):
        if self.rest.pop(0) != ("sign", word):
            raise Wrong

    def whole(self):
        tree = self.level(0)
        if self.rest[0][0] != "end":
            raise Wrong
        return tree

    def level(self, at):
        if at == len(LEVELS):
            return self.minus()
        tree = self.level(at + 1)
        while word := self.next(*[("operator", sign) for sign in LEVELS[at]]):
            tree = (word, tree, self.level(at + 1))
        return tree

    def minus(self):
        if self.next(("operator", "-")):
            return ("neg", self.minus())
        tree = self.operand()
        while self.next(("operator", "|")):
            tree = ("union", tree, self.operand())
        return tree

    def operand(self):
        (sort, word), behind = self.rest[0], self.rest[1:2]
        calls = sort == "name" and behind == [("sign", "(")] and word not in KINDS
        if not (sort in ("number", "text") or calls or word in ("(", "$") and sort == "sign"):
            return self.location()
        tree = self.primary(self.rest.pop(0))
        predicates = self.predicates()
        if predicates:
            tree = ("filter", tree, predicates)
        if self.rest[0] in (("sign", "/"), ("sign", "//")):
            return ("path", tree, self.relative(self.slash()))
        return tree

    def primary(self, token):
        sort, word = token
        if sort == "number":
            whole, _, part = word.partition(".")
            return ("number", (whole.lstrip("0") or "0") + ("." + part.rstrip("0")).rstrip("."))
        if sort == "text":
            return ("text", word[1:-1])
        if word == "$":
            if self.rest[0][0] != "name":
                raise Wrong
            return ("var", self.rest.pop(0)[1])
        if word == "(":
            tree = self.level(0)
            self.must(")")
            return tree
        self.must("(")
        trees = []
        while not self.next(("sign", ")")):
            if trees:
                self.must(",")
            trees.append(self.level(0))
        if len(trees) not in ARITIES.get(word, ()):
            raise Wrong
        return ("call", word, tuple(trees))

    def slash(self):
        return [DEEP] if self.rest.pop(0)[1] == "//" else []

    def location(self):
        if self.rest[0] not in (("sign", "/"), ("sign", "//")):
            return ("path", None, self.relative([]))
        steps = self.slash()
        first = self.rest[0]
        if not steps and first[0] != "name" and first not in [("sign", sign) for sign in (".", "..", "@", "*")]:
            return ("path", "root", ())
        return ("path", "root", self.relative(steps))

    def relative(self, steps):
        steps.append(self.step())
        while self.rest[0] in (("sign", "/"), ("sign", "//")):
            steps += self.slash()
            steps.append(self.step())
        return tuple(steps)

    def step(self):
        if self.next(("sign", ".")):
            return ("self", ("kind", "node", None), ())
        if self.next(("sign", "..")):
            return ("parent", ("kind", "node", None), ())
        axis = "child"
        if self.next(("sign", "@")):
            axis = "attribute"
        elif self.rest[1:2] == [("sign", "::")]:
            sort, axis = self.rest.pop(0)
            self.must("::")
            if sort != "name" or axis not in AXES:
                raise Wrong
        return (axis, self.test(), self.predicates())

    def test(self):
        sort, word = self.rest.pop(0)
        if (sort, word) == ("sign", "*"):
            return ("any",)
        if sort != "name":
            raise Wrong
        if not self.next(("sign", "(")):
            return ("name", word)
        if word not in KINDS:
            raise Wrong
        target = None
        if word == "processing-instruction" and self.rest[0][0] == "text":
            target = self.rest.pop(0)[1][1:-1]
        self.must(")")
        return ("kind", KINDS[word], target)

    def predicates(self):
        found = []
        while self.next(("sign", "[")):
            found.append(self.level(0))
            self.must("]")
        return tuple(found)


def second_tree(text):
    """The tree of a path, None if it is none."""
    try:
        return Second(text).whole()
    except (Wrong, IndexError):
        return None


BINDS = {"or": 1, "and": 2, "=": 3, "!=": 3, "<": 4, "<=": 4, ">": 4, ">=": 4, "+": 5, "-": 5, "*": 6, "div": 6,
         "mod": 6, "neg": 7, "union": 8}
WORDS = {kind: word for word, kind in KINDS.items()}


class Writer:
    """Writes trees as texts in many ways, with a source of choices."""

    def __init__(self, choices):
        self.choices = choices

    def blank(self):
        return self.choices.choice(["", "", "", " ", "\n", "\t "])

    def text(self, tree):
        return self.blank() + self.blank().join(self.words(tree, 0)) + self.blank()

    def words(self, tree, least):
        """The tokens of a tree, in brackets if its operator binds less than `least`."""
        needed = BINDS.get(tree[0], 9) < least
        if needed or self.choices.random() < 0.1:
            return ["(", *self.words(tree, 0), ")"]
        if tree[0] == "neg":
            return ["-", *self.words(tree[1], 7)]
        if tree[0] in BINDS:
            rank = BINDS[tree[0]]
            left = self.words(tree[1], rank)
            if left[-1] == "/" and tree[0] in ("*", "and", "or", "div", "mod"):
                left = ["(", *left, ")"]
            return [*left, " " + ("|" if tree[0] == "union" else tree[0]) + " ", *self.words(tree[2], rank + 1)]
        return self.operand(tree)

    def operand(self, tree):
        if tree[0] == "path":
            return self.path(tree)
        if tree[0] == "filter":
            return [*self.primary(tree[1], ("filter",)), *self.predicates(tree[2])]
        if tree[0] == "call":
            words = [tree[1] + self.blank(), "("]
            for at, part in enumerate(tree[2]):
                words += [*([","] if at else []), *self.words(part, 0)]
            return [*words, ")"]
        if tree[0] == "var":
            return ["$" + tree[1]]
        if tree[0] == "text":
            return [self.quoted(tree[1])]
        whole, _, part = tree[1].partition(".")
        whole = self.choices.choice(["", "0", "000"]) + whole
        part = part + self.choices.choice(["", "0", "00"])
        return [whole + "." + part if part else whole + self.choices.choice(["", "."])]

    def quoted(self, text):
        return self.choices.choice([mark + text + mark for mark in "'\"" if mark not in text])

    def primary(self, tree, barred):
        if tree[0] in ("var", "text", "number", "call", "filter") and tree[0] not in barred:
            return self.operand(tree)
        return ["(", *self.words(tree, 0), ")"]

    def predicates(self, trees):
        return [word for tree in trees for word in ["[", *self.words(tree, 0), "]"]]

    def path(self, tree):
        words = []
        if tree[1] not in (None, "root"):
            words = self.primary(tree[1], ())
        slash = tree[1] is not None
        if not tree[2]:
            return ["/"]
        steps = list(tree[2])
        while steps:
            step = steps.pop(0)
            if slash and step == DEEP and steps and self.choices.random() < 0.7:
                words += ["//", *self.step(steps.pop(0))]
            else:
                words += [*(["/"] if slash else []), *self.step(step)]
            slash = True
        return words

    def step(self, step):
        axis, test, predicates = step
        is_short = self.choices.random() < 0.5
        if is_short and step == ("self", ("kind", "node", None), ()):
            return ["."]
        if is_short and step == ("parent", ("kind", "node", None), ()):
            return [".."]
        words = [axis, "::"]
        if is_short and axis in ("child", "attribute"):
            words = [] if axis == "child" else ["@"]
        return [*words, *self.test(test), *self.predicates(predicates)]

    def test(self, test):
        if test[0] != "kind":
            return [test[1] if test[0] == "name" else "*"]
        return [WORDS[test[1]], "(", *([self.quoted(test[2])] if test[2] is not None else []), ")"]


NAMES = ["a", "b-c", "d.e", "f:g", "_h", "and", "or", "div", "mod", "text", "count", "child", "node", "x1", "self", "id"]


class Maker:
    """Makes trees of paths, with a source of choices."""

    def __init__(self, choices, closed=False):
        self.choices = choices
        self.closed = closed

    def tree(self, size):
        pick = self.choices.choice
        sort = pick(["path", "path", "path", "filter", "call", "leaf", "leaf", "binary", "binary", "neg"])
        if size <= 0 or sort == "leaf":
            leaves = [("text", pick(["", "x", "a'b", 'a"b', " /", "[", "{}"])),
                      ("number", pick(["0", "1", "2", "0.5", "12.25", "3"])),
                      ("path", "root", ()), ("path", None, (("child", ("name", pick(NAMES)), ()),))]
            return pick(leaves if self.closed else leaves + [("var", pick(NAMES))])
        if sort == "neg":
            return ("neg", self.tree(size - 1))
        if sort == "binary":
            word = pick(sorted(set(BINDS) - {"neg"}))
            return (word, self.tree(size // 2), self.tree(size // 2))
        if sort == "call":
            words = sorted(word for word in ARITIES if not (self.closed and word == "current"))
            word = pick(words)
            many = pick(sorted(ARITIES[word])[:3])
            return ("call", word, tuple(self.tree(size // 2 - 1) for _ in range(many)))
        if sort == "filter":
            return ("filter", self.tree(size // 2), self.predicates(size // 2, 1))
        start = pick(["root", None, None, self.tree(size // 2)])
        steps = []
        for _ in range(pick([1, 1, 2, 3])):
            if self.choices.random() < 0.25:
                steps.append(DEEP)
            steps.append(self.step(size // 3))
        return ("path", start, tuple(steps))

    def predicates(self, size, least):
        many = self.choices.choice([least, least, 1, 2]) if size > 0 else least
        return tuple(self.tree(size - 1) for _ in range(many))

    def step(self, size):
        pick = self.choices.choice
        axis = pick(AXES + ["child"] * 6 + ["attribute"] * 2)
        target = pick([None, "", "x", "y'z"])
        kind = pick(["node", "node", "text", "comment", "instruction"])
        test = pick([("name", pick(NAMES)), ("any",), ("kind", kind, target if kind == "instruction" else None)])
        if pick([True, False, False, False, False]):
            return pick([("self", ("kind", "node", None), ()), ("parent", ("kind", "node", None), ())])
        return (axis, test, self.predicates(size, 0))
