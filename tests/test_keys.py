"""[5.5], [5.4]: keys."""

import random
import unittest

from pathloom.documents import read
from pathloom.errors import BadValue, Failed, NotPath, NotPattern
from pathloom.matching import fitting, key_nodes
from tests.shown import STRANGE

TREE = read("<r><a k='1'>x</a><b k='2'><a>1</a><a>2</a></b><a k='1' l='2'>y<!--c--></a><c>1</c></r>")


def fault(*arguments):
    try:
        key_nodes(*arguments)
    except Failed as error:
        return error.fault
    return None


class Keys(unittest.TestCase):
    def test_words_of_all_sorts(self):
        told = {
            ("*", "@k", "1"): [(0, 0), (0, 2)], ("*", "@k", "2"): [(0, 1)], ("*", "@k", "3"): [], ("a", "@*", "2"): [(0, 2)],
            ("b", "a", "1"): [(0, 1)], ("b", "a", "2"): [(0, 1)], ("*", "*", "x"): [(0,)], ("@*", ".", "2"): [(0, 1, "@k"), (0, 2, "@l")],
            ("@k", "..", "x"): [(0, 0, "@k")], ("text()", ".", "1"): [(0, 1, 0, 0), (0, 3, 0)], ("/", "r/c", "1"): [()],
            ("node() | / | @*", "1", "1"): None, ("a", "count(@*)", "0"): [(0, 1, 0), (0, 1, 1)], ("a", "count(@*)", "2"): [(0, 2)],
            ("a", "boolean(@k)", "true"): [(0, 0), (0, 2)], ("a", "@k = 1", "false"): [(0, 1, 0), (0, 1, 1)],
            ("a", "concat(@k, '-', .)", "1-x"): [(0, 0)], ("a", "position() + last()", "2"): [(0, 0), (0, 1, 0), (0, 1, 1), (0, 2)],
            ("a", "current()", "y"): [(0, 2)], ("a", "../a[. = current()]", "2"): [(0, 1, 1)], ("a", "number(.)", "NaN"): [(0, 0), (0, 2)],
            ("comment()", "'w'", "w"): [(0, 2, 1)], ("*", "nothing", ""): [], ("a", "string(nothing)", ""): [(0, 0), (0, 1, 0), (0, 1, 1), (0, 2)],
            ("a[2]", "'w'", "w"): [(0, 1, 1), (0, 2)], ("a", "1 div 0", "Infinity"): [(0, 0), (0, 1, 0), (0, 1, 1), (0, 2)],
            ("a", "generate-id()", "n0d2"): [(0, 0)], ("q", "1", "1"): [], ("a", "//@k", "2"): [(0, 0), (0, 1, 0), (0, 1, 1), (0, 2)],
        }
        for (pattern, path, word), found in told.items():
            if found is None:
                found = fitting(pattern, TREE)
            self.assertEqual(key_nodes(TREE, [("k", pattern, path)], "k", word), found, (pattern, path))

    def test_several_of_one_name(self):
        rows = [("k", "a", "@k"), ("l", "*", "'1'"), ("k", "b | a", "."), ("k", "a", "@l | @k")]
        self.assertEqual(key_nodes(TREE, rows, "k", "1"), [(0, 0), (0, 1, 0), (0, 2)])
        self.assertEqual(key_nodes(TREE, rows, "k", "12"), [(0, 1)])
        self.assertEqual(key_nodes(TREE, rows, "k", "2"), [(0, 1, 1), (0, 2)])
        self.assertEqual(key_nodes(TREE, tuple(rows[::-1]), "k", "1"), [(0, 0), (0, 1, 0), (0, 2)])
        self.assertEqual(len(key_nodes(TREE, rows, "l", "1")), 7)

    def test_keys_in_patterns(self):
        rows = [("k", "*", "@k"), ("t", "*", ".")]
        told = {
            "key('k', '1')": [(0, 0), (0, 2)], "key('k', '2')/a": [(0, 1, 0), (0, 1, 1)], "key('k','2')//text()": [(0, 1, 0, 0), (0, 1, 1, 0)],
            "a[key('k', .)]": [(0, 1, 0), (0, 1, 1)], "*[key('k', *)]": [(0,), (0, 1)], "*[count(key('k', @*)) > 2]": [(0, 2)],
            "*[key('t', '1') = .]": [(0, 1, 0), (0, 3)], "*[key('t', 1)[2] = .]": [(0, 1, 0), (0, 3)],
            "a[key('k', nothing)]": [], "key('k', '')": [], "*[key(concat('', 'k'), true())]": [],
            "key('t', 'x')/@k | key('k','2')": [(0, 0, "@k"), (0, 1)], "key('k','1')/@l": [(0, 2, "@l")],
        }
        for text, found in told.items():
            self.assertEqual(fitting(text, TREE, rows), found, text)

    def test_a_list_as_the_second_argument(self):
        rows = [("k", "*", "@k")]
        self.assertEqual(fitting("r[count(key('k', *)) = 3]", TREE, rows), [])
        self.assertEqual(fitting("r[count(key('k', //a | //c)) = 3]", TREE, rows), [(0,)])
        self.assertEqual(fitting("r[count(key('k', //c)) = 2]", TREE, rows), [(0,)])
        self.assertEqual(fitting("r[count(key('k', string(//c))) = 2]", TREE, rows), [(0,)])

    def test_keys_that_ask_keys(self):
        rows = [("one", "*", "@k"), ("two", "a", "key('one', .)/@k"), ("three", "key('one', '1')", "key('two', '1')"),
                ("four", "*[key('three', '1')]", "'w'")]
        self.assertEqual(key_nodes(TREE, rows, "two", "1"), [(0, 1, 0)])
        self.assertEqual(key_nodes(TREE, rows, "three", "1"), [(0, 0), (0, 2)])
        self.assertEqual(key_nodes(TREE, rows, "four", "w"), fitting("*", TREE))
        row = [(f"k{at}", "a", f"key('k{at + 1}', '1')/@k") for at in range(25)] + [("k25", "a", "@k")]
        self.assertEqual(len(key_nodes(TREE, row, "k0", "1")), 4)

    def test_failures(self):
        self.assertEqual(fault(TREE, [], "k", "1"), "key")
        self.assertEqual(fault(TREE, [("l", "a", "@k")], "k", "1"), "key")
        self.assertEqual(fault(TREE, [("k", "a", "key('l', '1')")], "k", "1"), "key")
        self.assertEqual(fault(TREE, [("k", "a", "key('k', '1')")], "k", "1"), "circle")
        self.assertEqual(fault(TREE, [("k", "a[key('k', '1')]", "1")], "k", "1"), "circle")
        self.assertEqual(fault(TREE, [("k", "key('k', '1')", "1")], "k", "1"), "circle")
        self.assertEqual(fault(TREE, [("k", "a", "1"), ("k", "b", "key('k', nothing)")], "k", "1"), "circle")
        two = [("k", "a", "key('l', '1')"), ("l", "a", "key('k', '1')")]
        self.assertEqual([fault(TREE, two, name, "1") for name in "kl"], ["circle", "circle"])
        # What is not asked makes no circle.
        self.assertIsNone(fault(TREE, [("k", "q", "key('k', '1')")], "k", "1"))
        self.assertIsNone(fault(TREE, [("k", "a", "true() or key('k', '1')")], "k", "1"))
        self.assertIsNone(fault(TREE, [("l", "a", "1"), *two[:1]], "k", "1"))
        self.assertEqual(fault(TREE, [("k", "a", "count(1)")], "k", "1"), "nodes")
        self.assertEqual(fault(TREE, [("k", "a", "document('x')")], "k", "1"), "document")
        self.assertIsNone(fault(TREE, [("l", "a", "count(1)"), ("k", "a", "1")], "k", "1"))

    def test_like_what_is_told(self):
        choices = random.Random(20)
        for _ in range(150):
            inner = "".join(f"<{name} k='{choices.randrange(3)}'>{choices.randrange(3)}</{name}>"
                            for name in choices.choices("ab", k=8))
            tree = read(f"<r>{inner}</r>")
            rows = [("k", choices.choice(["a", "b", "*", "r/a"]), choices.choice(["@k", ".", "@k | .", "@k + ."]))
                    for _ in range(choices.choice([1, 2]))]
            for word in "0124":
                told = set()
                for _, pattern, path in rows:
                    test = f"string({path}) = '{word}'" if "+" in path else f"({path}) = '{word}'"
                    told |= {place for place in fitting(f"*[{test}]", tree) if place in fitting(pattern, tree)}
                self.assertEqual(key_nodes(tree, rows, "k", word), sorted(told), rows)

    def test_large(self):
        tree = read("<r>" + "".join(f"<a k='{at % 7}'/>" for at in range(2400)) + "</r>")
        self.assertEqual(len(key_nodes(tree, [("k", "a", "@k")], "k", "3")), 343)
        self.assertEqual(len(fitting("a[key('k', @k)[1]/@k = 5]", tree, [("k", "a", "@k")])), 343)


class Errors(unittest.TestCase):
    ROWS = [("k", "a", "@k")]

    def test_wrong_arguments(self):
        for thing in STRANGE:
            self.assertRaises(BadValue, key_nodes, thing, self.ROWS, "k", "1")
            if thing != []:
                self.assertRaises(BadValue, key_nodes, TREE, thing, "k", "1")
            self.assertRaises(BadValue, key_nodes, TREE, [thing], "k", "1")
            self.assertRaises(BadValue, key_nodes, TREE, self.ROWS, thing, "1")
            self.assertRaises(BadValue, key_nodes, TREE, self.ROWS, "k", thing)
        for name in ("", " k", "k ", "1k", "k:", ":k", "a:b:c", "\u00e9", "*", "k k"):
            self.assertRaises(BadValue, key_nodes, TREE, self.ROWS, name, "1")

    def test_any_text_is_a_word(self):
        for word in ("", "\u00e9", "a b", "\x00"):
            self.assertEqual(key_nodes(TREE, self.ROWS, "k", word), [])
        self.assertEqual(key_nodes(tree=TREE, key_rows=self.ROWS, key_name="k", word="1"), [(0, 0), (0, 2)])

    def test_the_earliest_is_raised(self):
        wrong = [("k", "a", "a b")]
        self.assertRaises(BadValue, key_nodes, 1, wrong, 1, 1)
        self.assertRaises(NotPath, key_nodes, TREE, wrong, 1, 1)
        self.assertRaises(NotPattern, key_nodes, TREE, [("k", "a b", "a b")], 1, 1)
        self.assertRaises(BadValue, key_nodes, TREE, self.ROWS, "", 1)
        self.assertRaises(BadValue, key_nodes, TREE, [], "", "1")
        self.assertRaises(BadValue, key_nodes, TREE, [], "k", 1)
        self.assertRaises(Failed, key_nodes, TREE, [], "k", "1")

    def test_unchanged(self):
        rows = [("k", "a", "@k")]
        found = key_nodes(TREE, rows, "k", "1")
        found.append(1)
        self.assertEqual((rows, key_nodes(TREE, rows, "k", "1")), ([("k", "a", "@k")], [(0, 0), (0, 2)]))


if __name__ == "__main__":
    unittest.main()
