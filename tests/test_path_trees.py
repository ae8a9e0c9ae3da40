"""[2.1] to [2.4], [2.6], [2.7]: tokens and trees of paths."""

import random
import unittest

from pathloom.errors import BadValue, NotPath
from pathloom.paths import abbreviated, canonical, tokens, tree_of
from tests.second_paths import ARITIES, AXES, Maker, Writer, second_tree
from tests.shown import STRANGE


def child(name, *predicates):
    return ("child", ("name", name), predicates)


def path(*steps, start=None):
    return ("path", start, steps)


A, B, C = path(child("a")), path(child("b")), path(child("c"))
HERE = ("self", ("kind", "node", None), ())
UP = ("parent", ("kind", "node", None), ())
DEEP = ("descendant-or-self", ("kind", "node", None), ())


class Tokens(unittest.TestCase):
    def shown(self, text):
        return [token[:2] for token in tokens(text)]

    def test_names_are_as_long_as_they_can_be(self):
        self.assertEqual(tokens("a-b"), [("name", "a-b", 0)])
        self.assertEqual(tokens("a -b"), [("name", "a", 0), ("sign", "-", 2), ("name", "b", 3)])
        self.assertEqual(tokens("a-"), [("name", "a-", 0)])
        self.assertEqual(tokens("_.-1:b.c-d"), [("name", "_.-1:b.c-d", 0)])
        self.assertEqual(tokens("a.b"), [("name", "a.b", 0)])
        self.assertEqual(tokens("a:_"), [("name", "a:_", 0)])

    def test_a_colon_belongs_to_a_name_if_a_word_follows(self):
        self.assertEqual(self.shown("self::a:b"), [("name", "self"), ("sign", "::"), ("name", "a:b")])
        self.assertEqual(self.shown("self:x"), [("name", "self:x")])
        self.assertEqual(tokens("child ::\n a"), [("name", "child", 0), ("sign", "::", 6), ("name", "a", 10)])

    def test_numbers(self):
        for word in ("1", "12.", "1.50", ".5", "007", "0.0"):
            self.assertEqual(tokens(word), [("number", word, 0)])
        self.assertEqual(tokens("1.5-.5"), [("number", "1.5", 0), ("sign", "-", 3), ("number", ".5", 4)])
        self.assertEqual(tokens("1 -1."), [("number", "1", 0), ("sign", "-", 2), ("number", "1.", 3)])
        self.assertEqual(tokens(". + .5"), [("sign", ".", 0), ("sign", "+", 2), ("number", ".5", 4)])

    def test_texts(self):
        self.assertEqual(tokens("'a\"b'"), [("text", "'a\"b'", 0)])
        self.assertEqual(tokens('"it\'s"'), [("text", '"it\'s"', 0)])
        self.assertEqual(tokens("''=\"\t\n~ \""), [("text", "''", 0), ("sign", "=", 2), ("text", '"\t\n~ "', 3)])

    def test_all_signs(self):
        text = "//a::b"
        self.assertRaises(NotPath, tokens, text)
        text = "//self::*[../@x!=$y|.][1<=2]>=3 and(4<5)=concat(6>7,/)+-8"
        signs = [word for sort, word, _ in tokens(text) if sort == "sign"]
        self.assertEqual(signs, "// :: * [ .. / @ != $ | . ] [ <= ] >= ( < ) = ( > , / ) + -".split())
        self.assertEqual("".join(word for _, word, _ in tokens(text)), text.replace(" ", ""))

    def test_variables(self):
        self.assertEqual(tokens("$a:b"), [("sign", "$", 0), ("name", "a:b", 1)])

    def test_places_with_blanks(self):
        text = "\t\n a [ 1\t] \n"
        self.assertEqual(tokens(text), [("name", "a", 3), ("sign", "[", 5), ("number", "1", 7), ("sign", "]", 9)])

    def test_new_lists(self):
        first = tokens("a")
        first.append(1)
        self.assertEqual(tokens("a"), [("name", "a", 0)])

    def test_many(self):
        choices = random.Random(1)
        for _ in range(1500):
            text = Writer(choices).text(Maker(choices).tree(8))
            at = 0
            for sort, word, place in tokens(text):
                self.assertEqual(text[at:place].strip(" \t\n"), "")
                self.assertTrue(text.startswith(word, place))
                at = place + len(word)
            self.assertEqual(text[at:].strip(" \t\n"), "")


class Words(unittest.TestCase):
    def test_operators_and_tests(self):
        self.assertEqual(tree_of("div div div"), ("div", path(child("div")), path(child("div"))))
        star = path(("child", ("any",), ()))
        self.assertEqual(tree_of("* * *"), ("*", star, star))
        self.assertEqual(tree_of("***"), ("*", star, star))
        self.assertEqual(tree_of("and and or or mod"),
                         ("or", ("and", path(child("and")), path(child("or"))), path(child("mod"))))
        self.assertEqual(tree_of("/*"), path(("child", ("any",), ()), start="root"))
        self.assertEqual(tree_of("/and"), path(child("and"), start="root"))
        self.assertEqual(tree_of("@*[*]*2"), ("*", path(("attribute", ("any",), (star,))), ("number", "2")))
        self.assertEqual(tree_of("(*)*(*)"), ("*", star, star))
        self.assertEqual(tree_of("$and and $and"), ("and", ("var", "and"), ("var", "and")))
        self.assertEqual(tree_of("'a'or'b'"), ("or", ("text", "a"), ("text", "b")))
        self.assertEqual(tree_of("1and 2"), ("and", ("number", "1"), ("number", "2")))
        self.assertEqual(tree_of(".. and ."), ("and", path(UP), path(HERE)))
        self.assertEqual(tree_of("text() or node()"), ("or", path(("child", ("kind", "text", None), ())),
                                                       path(("child", ("kind", "node", None), ()))))
        self.assertEqual(tree_of("true()and false()"), ("and", ("call", "true", ()), ("call", "false", ())))

    def test_names_of_functions_and_axes_are_tests_too(self):
        for word in sorted(ARITIES) + AXES + ["node", "text", "comment", "processing-instruction"]:
            self.assertEqual(tree_of(word), path(child(word)))
            self.assertEqual(tree_of("@" + word), path(("attribute", ("name", word), ())))
            self.assertEqual(tree_of("/" + word), path(child(word), start="root"))


class Trees(unittest.TestCase):
    def test_each_operator(self):
        for word in "or and = != < <= > >= + - * div mod".split():
            self.assertEqual(tree_of(f"a {word} b"), (word, A, B))
            self.assertEqual(tree_of(f"a {word} b {word} c"), (word, (word, A, B), C))
            self.assertEqual(tree_of(f"a {word} (b {word} c)"), (word, A, (word, B, C)))
        self.assertEqual(tree_of("a|b|c"), ("union", ("union", A, B), C))

    def test_groups_bind_in_order(self):
        groups = ["or", "and", "= !=", "< <= > >=", "+ -", "* div mod"]
        for at, group in enumerate(groups):
            for less in group.split():
                for other in group.split():
                    self.assertEqual(tree_of(f"a {less} b {other} c"), (other, (less, A, B), C))
                for more in " ".join(groups[at + 1:]).split():
                    self.assertEqual(tree_of(f"a {less} b {more} c"), (less, A, (more, B, C)))
                    self.assertEqual(tree_of(f"a {more} b {less} c"), (less, (more, A, B), C))
                self.assertEqual(tree_of(f"-a {less} b | c"), (less, ("neg", A), ("union", B, C)))

    def test_minus(self):
        self.assertEqual(tree_of("- - -a"), ("neg", ("neg", ("neg", A))))
        self.assertEqual(tree_of("-a|b"), ("neg", ("union", A, B)))
        self.assertEqual(tree_of("(-a)|b"), ("union", ("neg", A), B))
        self.assertEqual(tree_of("a - -b"), ("-", A, ("neg", B)))
        self.assertEqual(tree_of("-a*-b"), ("*", ("neg", path(child("a"))), ("neg", B)))
        self.assertEqual(tree_of("-(a+b)"), ("neg", ("+", A, B)))
        self.assertEqual(tree_of("-$x * .5"), ("*", ("neg", ("var", "x")), ("number", "0.5")))

    def test_axes_and_tests(self):
        for axis in AXES:
            for word, test in (("a", ("name", "a")), ("*", ("any",)), ("node()", ("kind", "node", None)),
                               ("text()", ("kind", "text", None)), ("comment( )", ("kind", "comment", None)),
                               ("processing-instruction()", ("kind", "instruction", None)),
                               ("processing-instruction('x y')", ("kind", "instruction", "x y")),
                               ('processing-instruction ( "" )', ("kind", "instruction", ""))):
                self.assertEqual(tree_of(f"{axis}::{word}"), path((axis, test, ())))

    def test_abbreviations(self):
        self.assertEqual(tree_of("/"), ("path", "root", ()))
        self.assertEqual(tree_of("a/b"), path(child("a"), child("b")))
        self.assertEqual(tree_of("/a//b"), path(child("a"), DEEP, child("b"), start="root"))
        self.assertEqual(tree_of("//a"), path(DEEP, child("a"), start="root"))
        self.assertEqual(tree_of(".//.."), path(HERE, DEEP, UP))
        self.assertEqual(tree_of("@a"), path(("attribute", ("name", "a"), ())))
        self.assertEqual(tree_of("@node()"), path(("attribute", ("kind", "node", None), ())))
        self.assertEqual(tree_of("a[1]['x'][@b]"),
                         path(child("a", ("number", "1"), ("text", "x"), path(("attribute", ("name", "b"), ())))))

    def test_primaries(self):
        self.assertEqual(tree_of("$x[1][2]"), ("filter", ("var", "x"), (("number", "1"), ("number", "2"))))
        self.assertEqual(tree_of("($x[1])[2]"),
                         ("filter", ("filter", ("var", "x"), (("number", "1"),)), (("number", "2"),)))
        self.assertEqual(tree_of("'t'/a"), path(child("a"), start=("text", "t")))
        self.assertEqual(tree_of("1//a"), path(DEEP, child("a"), start=("number", "1")))
        self.assertEqual(tree_of("(a)/b"), path(child("b"), start=A))
        self.assertEqual(tree_of("(a)[1]/b"), path(child("b"), start=("filter", A, (("number", "1"),))))
        self.assertEqual(tree_of("id('x')/@y"),
                         path(("attribute", ("name", "y"), ()), start=("call", "id", (("text", "x"),))))
        self.assertEqual(tree_of("((a))"), A)
        self.assertEqual(tree_of("(/)/a"), path(child("a"), start=("path", "root", ())))

    def test_numbers(self):
        for text, told in (("007", "7"), ("0", "0"), ("000", "0"), (".50", "0.5"), ("1.", "1"), ("1.0", "1"),
                           ("0.0", "0"), ("10.010", "10.01"), ("100", "100"), (".0000000001", "0.0000000001"),
                           ("9" * 60, "9" * 60)):
            self.assertEqual(tree_of(text), ("number", told))

    def test_calls(self):
        for word, arities in ARITIES.items():
            for many in range(6):
                text = f"{word} ({' ,'.join(['a'] * many)})"
                if many in arities:
                    self.assertEqual(tree_of(text), ("call", word, (A,) * many))
                else:
                    self.assertRaises(NotPath, tree_of, text)

    def test_written_in_many_ways(self):
        choices = random.Random(2)
        for size in (2, 4, 8, 16, 30):
            for _ in range(500):
                tree = Maker(choices).tree(size)
                text = Writer(choices).text(tree)
                if len(text) < 3000:
                    self.assertEqual(tree_of(text), tree, text)
                    self.assertEqual(second_tree(text), tree, text)

    def test_like_a_second_reader(self):
        choices = random.Random(3)
        words = ("a b - and or div mod * / // . .. @ $x :: : [ ] ( ) , 1 .5 2. 'x' \" ' = != ! < <= | + child self "
                 "text ( ) node count ( last ( ) concat ( # $").split() + [" "] * 6
        many = 0
        for _ in range(40000):
            text = "".join(choices.choice(words) for _ in range(choices.randrange(1, 8)))
            try:
                found = tree_of(text)
                many += 1
            except NotPath:
                found = None
            self.assertEqual(found, second_tree(text), text)
        self.assertGreater(many, 2000)


class Wrong(unittest.TestCase):
    def test_no_text(self):
        for thing in STRANGE:
            for function in (tokens, tree_of, canonical, abbreviated):
                self.assertRaises(BadValue, function, thing)

    def test_names_of_arguments(self):
        self.assertEqual(tokens(text="a"), [("name", "a", 0)])
        self.assertEqual(tree_of(text="a"), A)
        self.assertEqual(canonical(text="a") + abbreviated(text="a"), "child::aa")


class Bounds(unittest.TestCase):
    def test_brackets_and_rows(self):
        for text in ("(" * 25 + "a" + ")" * 25, "a[" * 25 + "1" + "]" * 25, "not(" * 25 + "a" + ")" * 25,
                     "+".join(["a"] * 90), "-" * 90 + "a", "|".join(["a"] * 90), " or ".join(["a"] * 90),
                     "(" * 20 + "a" + "".join("+a" * 40 + ")" for _ in range(20)), "/".join(["a"] * 990),
                     "".join("-" * 60 + "(" for _ in range(20)) + "a" + ")" * 20,
                     "".join("a or b and c = d < e + f * -(" for _ in range(20)) + "a" + ")" * 20):
            tree = tree_of(text)
            for other in (canonical(text), abbreviated(text)):
                self.assertEqual(canonical(other), canonical(text))
            self.assertTrue(tree)


if __name__ == "__main__":
    unittest.main()
