"""[5.2], [5.4], [5.6]: the nodes that fit patterns, and the errors of fitting."""

import random
import unittest

from pathloom.contexts import World, start_context
from pathloom.documents import read
from pathloom.errors import BadValue, Failed, NotPath, NotPattern
from pathloom.evaluating import value_of
from pathloom.matching import fitting, pattern_text
from pathloom.paths import tree_of
from pathloom.places import node_at, places
from pathloom.trees import place_of
from tests.plain_axes import Told
from tests.shown import EVERYTHING, STRANGE
from tests.test_patterns import random_pattern
from tests.test_steps import DOCUMENT, PREDICATES

TREE = read("<a id='1'>x<b/>y<b c='1' d='2'><a><b/></a></b><!--k--><?p?><c><b/><a/><b>z</b></c></a>")


def selected(text, tree, place):
    """The places that a path selects from a node; it may fail."""
    found = value_of(tree_of(text), start_context(node_at(tree, place), World()))
    return [place_of(node) for node in found[1]]


class Fitting(unittest.TestCase):
    def test_told(self):
        told = {
            "/": [()], "node()": [(0,), (0, 0), (0, 1), (0, 2), (0, 3), (0, 3, 0), (0, 3, 0, 0), (0, 4), (0, 5), (0, 6),
                                  (0, 6, 0), (0, 6, 1), (0, 6, 2), (0, 6, 2, 0)],
            "@*": [(0, "@id"), (0, 3, "@c"), (0, 3, "@d")], "@node()": [(0, "@id"), (0, 3, "@c"), (0, 3, "@d")],
            "text()[2]": [(0, 2)], "text()": [(0, 0), (0, 2), (0, 6, 2, 0)], "/a": [(0,)], "a": [(0,), (0, 3, 0), (0, 6, 1)],
            "//a": [(0,), (0, 3, 0), (0, 6, 1)], "a/b": [(0, 1), (0, 3), (0, 3, 0, 0)], "/a/b": [(0, 1), (0, 3)],
            "a//b": [(0, 1), (0, 3), (0, 3, 0, 0), (0, 6, 0), (0, 6, 2)], "/b": [], "b[2]": [(0, 3), (0, 6, 2)],
            "b[last()]": [(0, 3), (0, 3, 0, 0), (0, 6, 2)], "*[2]": [(0, 3), (0, 6, 1)], "a[2]": [],
            "a[1]": [(0,), (0, 3, 0), (0, 6, 1)], "@*[2]": [(0, 3, "@d")], "@*[last() = 2]": [(0, 3, "@c"), (0, 3, "@d")],
            "b[@c]/a": [(0, 3, 0)], "comment()|processing-instruction()": [(0, 4), (0, 5)], "processing-instruction('q')": [],
            "processing-instruction('p')": [(0, 5)], "id('1')": [(0,)], "id('1')/b": [(0, 1), (0, 3)], "id('2')": [],
            "id('1')//b[1]": [(0, 1), (0, 3, 0, 0), (0, 6, 0)], "//@c": [(0, 3, "@c")], "/@id": [], "a/@id": [(0, "@id")],
            "@id/a": [], "@id//a": [], "@id//@id": [], "b[not(node())][1]": [(0, 1), (0, 3, 0, 0), (0, 6, 0)],
            "b|a|b": [(0,), (0, 1), (0, 3), (0, 3, 0), (0, 3, 0, 0), (0, 6, 0), (0, 6, 1), (0, 6, 2)],
            "b[position() = last()][1]": [(0, 3), (0, 3, 0, 0), (0, 6, 2)], "*[1][self::b]": [(0, 1), (0, 3, 0, 0), (0, 6, 0)], "a[. = 'z']": [], "b[.='z']/text()": [(0, 6, 2, 0)],
        }
        for text, found in told.items():
            with self.subTest(text):
                self.assertEqual(fitting(text, TREE), found)

    def test_like_the_same_text_as_a_path_from_a_node_or_above(self):
        choices = random.Random(18)
        many = 0
        for tree in (TREE, read(DOCUMENT), read(EVERYTHING)):
            for _ in range(150):
                text = "|".join(random_pattern(choices))
                if "key" in text:
                    continue
                try:
                    rows = {place: selected(text, tree, place) for place in places(tree)}
                except Failed:
                    continue
                many += 1
                told = [place for place in places(tree)
                        if any(place in rows[place[:size]] for size in range(len(place) + 1))]
                self.assertEqual(fitting(text, tree), told, text)
                self.assertEqual(fitting(pattern_text(text), tree), told, text)
                self.assertEqual(told, [place for place in places(tree) if place in sum(rows.values(), [])])
        self.assertGreater(many, 100)

    def test_predicates_count_among_what_is_told(self):
        tree = read(DOCUMENT)
        told = Told(tree)
        choices = random.Random(19)
        for _ in range(600):
            axis, test = choices.choice([("child::", "*"), ("child::", "node()"), ("child::", "s"), ("@", "*"), ("", "t")])
            words = [choices.choice(list(PREDICATES)) for _ in range(choices.choice([1, 1, 2]))]
            text = axis + test + "".join(f"[{word}]" for word in words)
            found = []
            for parent in told.places:
                [(name, inner, _)] = tree_of(text)[2]
                row = [node for node in told.axis(name, parent) if told.passes(name, inner, node)]
                for word in words:
                    row = [node for at, node in enumerate(row) if PREDICATES[word](told, node, at + 1, len(row))]
                found += row
            self.assertEqual(fitting(text, tree), [place for place in told.places if place in found], text)

    def test_unions_and_opposites(self):
        for tree in (TREE, read(DOCUMENT)):
            both = fitting("*[@id]", tree) + fitting("*[not(@id)]", tree)
            self.assertEqual(sorted(both), sorted(fitting("*", tree)))
            for one, other in (("a", "//b"), ("@*", "text()"), ("/", "node()"), ("b[1]", "b[2]")):
                either = set(fitting(one, tree)) | set(fitting(other, tree))
                self.assertEqual(fitting(f"{one}|{other}", tree), [place for place in places(tree) if place in either])

    def test_new_lists_and_unchanged_arguments(self):
        rows = [("k", "a", "@id")]
        fitting("a", TREE, rows).append(1)
        self.assertEqual(fitting("a", TREE, rows), [(0,), (0, 3, 0), (0, 6, 1)])
        self.assertEqual(rows, [("k", "a", "@id")])
        self.assertEqual(fitting(text="a", tree=TREE, key_rows=()), fitting("a", TREE))

    def test_failures(self):
        for text, word in (("a[count(1)]", "nodes"), ("a[1/b]", "nodes"), ("a[key('k', 'x')]", "key"), ("key('k', 'x')", "key"),
                           ("a[document('x')]", "document"), ("b | a[(1 | b)]", "nodes"), ("a/b[sum('x')]", "nodes")):
            with self.assertRaises(Failed) as caught:
                fitting(text, TREE)
            self.assertEqual(caught.exception.fault, word)
        self.assertEqual(fitting("q[count(1)]", TREE), [])
        self.assertEqual(fitting("a/q[count(1)] | q/a[count(1)]", TREE), [])
        self.assertEqual(fitting("a[document(q)]", TREE), [])

    def test_large(self):
        tree = read("<r>" + "<a b='1'>x</a>" * 1600 + "</r>")
        self.assertEqual(len(fitting("a[@b]//text() | r/a[last()] | @b", tree)), 3201)
        self.assertEqual(fitting("a[1600]/text()", tree), [(0, 1599, 0)])
        deep = read("<a>" * 200 + "</a>" * 200)
        self.assertEqual(len(fitting("a//a//a[not(b)]", deep)), 198)
        self.assertEqual(len(fitting("/".join(["a"] * 60), deep)), 141)


class Errors(unittest.TestCase):
    def test_wrong_texts_and_trees(self):
        for thing in STRANGE:
            self.assertRaises(BadValue, fitting, thing, TREE)
            self.assertRaises(BadValue, fitting, "a", thing)
            if thing != []:
                self.assertRaises(BadValue, fitting, "a", TREE, thing)
        for thing in (TREE, "", "ab", 3, {("k", "a", "a"): 1}, iter([])):
            self.assertRaises(BadValue, fitting, "a", TREE, thing)

    def test_wrong_rows(self):
        for row in STRANGE + [TREE, "kab", ["k", "a", "b"], (), ("k",), ("k", "a"), ("k", "a", "b", "c"), ("", "a", "b"),
                              (" k", "a", "b"), ("k ", "a", "b"), ("1", "a", "b"), ("k:", "a", "b"), ("a:b:c", "a", "b"),
                              (1, "a", "b"), ("k", 1, "b"), ("k", "a", 1), ("k", None, "b"), ("\u00e9", "a", "b"),
                              (b"k", "a", "b"), ("k", ["a"], "b")]:
            self.assertRaises(BadValue, fitting, "a", TREE, [row])
            self.assertRaises(BadValue, fitting, "a", TREE, (("k", "a", "b"), row))
        self.assertEqual(fitting("q", TREE, [("k:l", "a", "b"), ("_.-1", "a", "b")]), [])

    def raised(self, *arguments):
        try:
            fitting(*arguments)
        except (NotPath, NotPattern) as error:
            return (error.__class__.__name__, error.at)
        except BadValue:
            return "BadValue"
        except Failed as error:
            return error.fault

    def test_the_earliest_is_raised(self):
        told = [
            ((1, 1, 1), "BadValue"), (("a b", 1, 1), ("NotPattern", 2)), (("a", 1, [("k", "a b", "a")]), "BadValue"),
            (("a", TREE, [("k", "a b", "a c")]), ("NotPattern", 2)), (("a", TREE, [("k", "a", "a c")]), ("NotPath", 2)),
            (("a", TREE, [("k", "a", "a c"), ("k", "a b", "a")]), ("NotPath", 2)),
            (("a", TREE, [("k", "a", "a c"), 1]), ("NotPath", 2)), (("a", TREE, [1, ("k", "a", "a c")]), "BadValue"),
            (("a", TREE, [("k", "a b", 1)]), "BadValue"), (("a", TREE, [("1", "a b", "a c")]), "BadValue"),
            (("a", TREE, [(1, "a b", "a c")]), "BadValue"), (("a[count(1)]", TREE, [("k", "a", "")]), ("NotPath", 0)),
            (("a[count(1)]", TREE, [("k", "", "a")]), ("NotPattern", 0)), (("a[count(1)]", TREE, [("k", "a", "a")]), "nodes"),
        ]
        for arguments, error in told:
            self.assertEqual(self.raised(*arguments), error)

    def test_variables_in_keys(self):
        for path, at in (("$x", 0), ("a[b = $x]", 6), ("'$' = $x + $y", 6), ("a | $b/c", 4), ("\"$\"", None), ("a[$", 3)):
            found = self.raised("q", TREE, [("k", "a", path)])
            self.assertEqual(found, None if at is None else ("NotPath", at))
        self.assertEqual(self.raised("q", TREE, [("k", "a[$x]", "a")]), ("NotPattern", 2))
        self.assertEqual(self.raised("q", TREE, [("k", "a", "current()")]), None)


if __name__ == "__main__":
    unittest.main()
