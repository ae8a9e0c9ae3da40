"""[3.4] to [3.6], [4.6], [4.7]: conversions, comparisons and functions."""

import random
import unittest

from pathloom.contexts import World, start_context
from pathloom.documents import read
from pathloom.errors import Failed
from pathloom.evaluating import value_of
from pathloom.paths import tree_of
from pathloom.trees import place_of
from pathloom.values import is_true_of, to_number, to_text, to_truth

TREE = read("<r id='top'><a id='x'>1</a><a id='y'>2<b/>x</a><c:d id='x y'> 3\n</c:d><e/><!--k--><?p q?></r>")


def value(text, node=None, variables=None, current=None):
    """The value of a path at a node; nodes as their places."""
    context = start_context(node or TREE.root.children[0], World())
    context.variables = variables or {}
    context.current = current or context.node
    found = value_of(tree_of(text), context)
    if found[0] == "nodes":
        return [place_of(one) for one in found[1]]
    return to_text(found) if found[0] == "number" else found[1]


def fault(text, **told):
    try:
        value(text, **told)
    except Failed as error:
        return error.fault
    return None


class Conversions(unittest.TestCase):
    def test_as_text(self):
        told = {"string(1.50)": "1.5", "string(1 div 0)": "Infinity", "string(true())": "true", "string(1 = 2)": "false",
                "string('x')": "x", "string(a)": "1", "string(nothing)": "", "string(a[2] | a[1])": "1",
                "concat(1, a, true())": "11true"}
        for text, found in told.items():
            self.assertEqual(value(text), found, text)

    def test_as_number(self):
        told = {"number('1.5')": "1.5", "number('')": "NaN", "number(true())": "1", "number(false())": "0",
                "number(a)": "1", "number(nothing)": "NaN", "number(c:d)": "3", "number(a[2])": "NaN", "number(7)": "7"}
        for text, found in told.items():
            self.assertEqual(value(text), found, text)

    def test_as_truth(self):
        told = {"0": False, "0 div 0": False, "-1": True, "1 div 0": True, "0.000000001": True, "''": False, "'0'": True,
                "'false'": True, "nothing": False, "e": True, "true()": True, "false()": False}
        for text, found in told.items():
            self.assertIs(value(f"boolean({text})"), found, text)
            self.assertIs(value(f"not({text})"), not found, text)


class Comparisons(unittest.TestCase):
    def test_without_lists(self):
        told = {"1 = 1.0": True, "1 = '1.0'": True, "'1' = '1.0'": False, "'1' <= '1.0'": True, "true() = 'x'": True,
                "true() = 7": True, "false() = ''": True, "true() > false()": True, "'a' < 'b'": False,
                "'a' != 'b'": True, "'a' = 'a'": True, "0 div 0 = 0 div 0": False, "0 div 0 != 0 div 0": True,
                "'x' != 1": True, "'x' = 1": False, "'x' < 1": False, "'x' >= 1": False, "1 div 0 > 5": True,
                "-1 div 0 < -5": True, "1 div 0 = 2 div 0": True, "1 div 0 <= 1 div 0": True, "1 div 0 < 1 div 0": False,
                "2 > 1": True, "2 >= 2": True, "2 < 2": False, "true() != 1": False, "1 = true()": True}
        for text, found in told.items():
            self.assertIs(value(text), found, text)

    def test_with_a_list(self):
        told = {"a = 1": True, "1 = a": True, "a != 1": True, "a = '2x'": True, "a = '2'": False, "a > 0": True,
                "0 < a": True, "a > 1": False, "a < 2": True, "nothing = ''": False, "nothing != ''": False,
                "nothing = false()": True, "nothing != true()": True, "a = true()": True, "a < true()": False,
                "nothing < true()": True, "1 <= a": True, "2 <= a": False, "1 >= a": True, "0 >= a": False, "1 < a": False, "2 > a": True,
                "1 != a": True, "'1' != c": False, "'1' = a": True, "true() = nothing": False, "true() > nothing": True, "a >= true()": True, "c:d = 3": True,
                "c:d = '3'": False, "e = ''": True, "e != ''": False, "a = 'z'": False}
        for text, found in told.items():
            self.assertIs(value(text), found, text)

    def test_two_lists_like_all_pairs(self):
        choices = random.Random(12)
        words = ["1", "2", "1.0", "x", "", "-3", " 2 ", "y"]
        for _ in range(800):
            lists = [[choices.choice(words) for _ in range(choices.randrange(4))] for _ in range(2)]
            inner = ["".join(f"<i>{word}</i>" for word in row) for row in lists]
            tree = read(f"<r><a>{inner[0]}</a><b>{inner[1]}</b></r>")
            for word in "= != < <= > >=".split():
                pairs = [is_true_of(word, ("text", one), ("text", other)) for one in lists[0] for other in lists[1]]
                self.assertIs(value(f"a/i {word} b/i", tree.root.children[0]), True in pairs, (word, lists))

    def test_operands_of_or_and_and(self):
        self.assertIs(value("true() or count(1)"), True)
        self.assertIs(value("false() and count(1)"), False)
        self.assertEqual(fault("false() or count(1)"), "nodes")
        self.assertEqual(fault("true() and count(1)"), "nodes")
        self.assertIs(value("a and 'x' and 1"), True)
        self.assertIs(value("nothing or '' or 0"), False)


class Functions(unittest.TestCase):
    def test_nodes(self):
        told = {"count(a)": "2", "count(a | a | e)": "3", "name(c:d)": "c:d", "local-name(c:d)": "d", "name(e)": "e",
                "name()": "r", "local-name()": "r", "name(nothing)": "", "name(comment())": "", "name(a/@id)": "id",
                "name(processing-instruction())": "p", "name(/)": "", "local-name(/)": "", "name(e | a)": "a",
                "sum(a[1] | c:d)": "4", "sum(a)": "NaN", "sum(nothing)": "0"}
        for text, found in told.items():
            self.assertEqual(value(text), found, text)

    def test_sorts_of_values(self):
        told = {"nodes": ["id('x')", "current()", "document(nothing)", "a"],
                "text": ["string()", "concat('', '')", "name()", "local-name()", "generate-id()", "substring-before('', '')",
                         "substring-after('', '')", "substring('', 1)", "normalize-space()", "translate('', '', '')",
                         "name(nothing)", "generate-id(nothing)", "'x'"],
                "number": ["last()", "position()", "count(a)", "string-length()", "number()", "sum(a)", "floor(1)",
                           "ceiling(1)", "round(1)", "1 + 1", "-1", "1"],
                "truth": ["true()", "false()", "not(1)", "boolean(1)", "contains('', '')", "starts-with('', '')", "1 = 1",
                          "1 or 1", "1 and 1", "1 < 1"]}
        context = start_context(TREE.root.children[0], World())
        for sort, texts in told.items():
            for text in texts:
                self.assertEqual(value_of(tree_of(text), context)[0], sort, text)

    def test_id(self):
        told = {"id('x')": [(0, 0)], "id(' y\tx\n')": [(0, 0), (0, 1)], "id('x y')": [(0, 0), (0, 1)], "id('')": [],
                "id('q')": [], "id(//@id)": [(0,), (0, 0), (0, 1)], "id('top')/e": [(0, 3)], "id(nothing)": [],
                "id(1)": [], "id(//@id)[2]": [(0, 0)]}
        for text, found in told.items():
            self.assertEqual(value(text), found, text)
        self.assertEqual(value("id('2 3')", read("<r><a id='3'/><b id='3'/></r>").root), [(0, 0)])
        self.assertEqual(value("id(3)", read("<r><a id='3'/></r>").root), [(0, 0)])
        self.assertEqual(value("id(r)", read("<r id='1 2'>1 2<a id='2'/></r>").root), [(0, 1)])

    def test_texts(self):
        told = {
            "concat('a', 'b')": "ab", "concat('a', 1, a, '')": "a11", "starts-with('abc', 'ab')": True,
            "starts-with('abc', '')": True, "starts-with('abc', 'b')": False, "contains('abc', 'bc')": True,
            "contains('abc', 'ac')": False, "contains('', '')": True, "substring-before('1999/04', '/')": "1999",
            "substring-after('1999/04/01', '/')": "04/01", "substring-before('abc', 'x')": "",
            "substring-after('abc', 'x')": "", "substring-before('abc', '')": "", "substring-after('abc', '')": "abc",
            "substring('12345', 2, 3)": "234", "substring('12345', 2)": "2345", "substring('12345', 1.5, 2.6)": "234",
            "substring('12345', 0, 3)": "12", "substring('12345', 0 div 0, 3)": "", "substring('12345', 1, 0 div 0)": "",
            "substring('12345', -42, 1 div 0)": "12345", "substring('12345', -1 div 0, 1 div 0)": "",
            "substring('12345', -1 div 0)": "12345", "substring('12345', 1 div 0)": "", "substring('12345', 2, -1)": "",
            "substring('12345', 1.4)": "12345", "substring('12345', 1.5)": "2345", "substring('12345', 3, 0.4)": "",
            "substring('12345', '2', true())": "2", "substring('12345', 4, 9)": "45", "substring('12345', 0.5, 1)": "1",
            "string-length('abc')": "3", "string-length('')": "0", "string-length()": "6",
            "normalize-space(' a \t b\n')": "a b", "normalize-space('')": "", "normalize-space('  ')": "",
            "normalize-space(c:d)": "3", "normalize-space()": "12x 3", "translate('bar', 'abc', 'AB')": "BAr",
            "translate('--aaa--', 'abc-', 'ABC')": "AAA", "translate('aba', 'aab', 'xyz')": "xzx",
            "translate('abc', '', 'x')": "abc", "translate('abc', 'abc', '')": "", "translate('abc', 'c', 'xyz')": "abx",
            "string()": "12x 3\n", "number()": "NaN", "string(.)": "12x 3\n",
        }
        for text, found in told.items():
            self.assertEqual(value(text), found, text)

    def test_only_told_white_space_counts(self):
        told = {"x": ("text", "\r1\x0b \u00a02")}
        self.assertEqual(value("normalize-space($x)", variables=told), "\r1\x0b \u00a02")
        self.assertEqual(value("number($x)", variables={"x": ("text", "1\r")}), "NaN")

    def test_context(self):
        self.assertEqual(value("a[last()]"), [(0, 1)])
        self.assertEqual(value("*[position() = 2]"), [(0, 1)])
        self.assertEqual(value("position() + last()"), "2")
        self.assertEqual(value("a[current()/e]"), [(0, 0), (0, 1)])
        self.assertEqual(value("a[. = current()]", current=TREE.root.children[0].children[0]), [(0, 0)])
        self.assertEqual(value("current()"), [(0,)])

    def test_marks(self):
        self.assertEqual(value("generate-id()"), "n0d1")
        self.assertEqual(value("generate-id(/)"), "n0d0")
        self.assertEqual(value("generate-id(nothing)"), "")
        self.assertEqual(value("generate-id(e | @id)"), "n0d2")
        self.assertEqual(value("generate-id(a[2]/b)"), "n0d" + str(TREE.nodes.index(TREE.root.children[0].children[1].children[1])))

    def test_variables(self):
        self.assertEqual(value("$a + 1", variables={"a": ("number", 2 * 10 ** 9)}), "3")
        self.assertEqual(fault("$a"), "variable")
        self.assertEqual(fault("a[$b]"), "variable")
        self.assertIsNone(fault("nothing[$b]"))
        self.assertIsNone(fault("1 or $b"))

    def test_failures(self):
        told = {
            "count(1)": "nodes", "count('a')": "nodes", "sum(true())": "nodes", "name('a')": "nodes",
            "local-name(1)": "nodes", "generate-id('a')": "nodes", "1 | a": "nodes", "a | 1": "nodes", "'a'/b": "nodes",
            "1[1]": "nodes", "true()//a": "nodes", "(a = 1)[1]": "nodes", "document('x')": "document",
            "document(a)": "document", "document('')": "document", "key('k', 'x')": "key", "key('k', nothing)": "key",
            # The left side is looked at first, and all arguments are evaluated.
            "1 | $x": "nodes", "a | $x": "variable", "count($x)": "variable", "concat(count(1), $x)": "nodes",
            "concat($x, count(1))": "variable", "substring('a', count(1), $x)": "nodes", "$x = count(1)": "variable",
            "count(1) + $x": "nodes", "-count(1)": "nodes", "key($x, count(1))": "variable", "$x[1]": "variable",
            "1[$x]": "nodes", "document(nothing)": None, "nothing | nothing": None, "nothing/b[count(1)]": None,
        }
        for text, word in told.items():
            self.assertEqual(fault(text), word, text)
        self.assertEqual(value("document(nothing)"), [])

    def test_facts(self):
        choices = random.Random(13)
        for _ in range(300):
            one, other = ["".join(choices.choice("ab \t") for _ in range(choices.randrange(6))) for _ in range(2)]
            told = {"a": ("text", one), "b": ("text", other)}
            if other in one:
                text = "concat(substring-before($a, $b), $b, substring-after($a, $b))"
                self.assertEqual(value(text, variables=told), one)
            for text in ("normalize-space($a)", "translate($a, $b, 'ab')"):
                again = text.replace("$a", f"{text}") if "normalize" in text else text
                self.assertEqual(value(again, variables=told), value(text, variables=told))
            same = "translate(translate($a, $b, $b), $b, $b)"
            self.assertEqual(value(same, variables=told), one)

    def test_conversions_of_lists_take_the_first_node(self):
        nodes = ("nodes", [TREE.root.children[0].children[1], TREE.root])
        self.assertEqual((to_text(nodes), to_number(nodes), to_truth(nodes)), ("2x", "NaN", True))


if __name__ == "__main__":
    unittest.main()
