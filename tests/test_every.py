"""[9]: paths on every document, held against all small documents."""

import random
import unittest

from pathloom.contexts import World, start_context
from pathloom.documents import read
from pathloom.errors import BadValue, NotForm, NotPath
from pathloom.evaluating import compiled
from pathloom.every import contained, counterexample, equivalent, example, is_counterexample
from pathloom.paths import tree_of
from pathloom.places import places
from pathloom.selecting import select
from tests.drawn_paths import Drawer, small_documents
from tests.shown import STRANGE

FORMS = [
    "/", "/.", "/a", "/*", "//a", "//*", "/a/b", "/a//b", "/a/*//b/@c", "//@*", "//@c", "/descendant::a", "/descendant-or-self::a", "/self::a", "/a/self::*",
    "/a/.", "/a/./b", "/././a", "//./a", "/a//./b", "/descendant-or-self::node()/a", "/self::node()/a", "/a[b]", "/a[.]", "/a[b/.]", "/a[./b]", "/a[.//b]",
    "/a[@b]", "/a[b/@c]", "/a[b][c]", "/a[b and c]", "/a[b or c and d]", "/a[(b or c) and d]", "/a[b[c]]", "/a[descendant::b]", "/a[self::b]", "/a[.//@b]",
    "/a | /b", "(/a | /b) | /c", "/a | (/b | //c)", "((/a))", "/a[(b)]", "/a/attribute::b", "/a/attribute::*", "/child::a/child::*", "/a//descendant::b",
    "/a//self::b", "/a//descendant-or-self::b", "//descendant-or-self::node()/a", "/ | /a", "/a[.//.//b]", "/@a",
]
NO_FORMS = [
    "a", ".", "a/b", "@a", "..", "/..", "/a/..", "/a/parent::b", "/a/ancestor::b", "/a/following::b", "/a/preceding-sibling::b", "/a/namespace::b", "/text()",
    "/a/text()", "/a/node()", "/node()", "/comment()", "/processing-instruction()", "/descendant::node()", "//node()", "/a/descendant-or-self::node()", "//.",
    "/a//.", "/a//self::node()", "/descendant-or-self::node()", "/a/self::node()[b]", "/descendant-or-self::node()[b]/a", "/a/@b/.", "/a/@b/c", "/a/@b//c", "/a/@b[c]", "/a/@node()",
    "/a/attribute::node()", "/a[1]", "/a['b']", "/a[last()]", "/a[position() = 1]", "/a[not(b)]", "/a[b = 'c']", "/a[b | c]", "/a[/b]", "/a[//b]", "/a[b + c]",
    "/a[-b]", "/a[b[1]]", "/a[$x]", "/a[.//.]", "/a[b//.]", "/a[..]", "/a[b/..]", "/a[text()]", "/a[node()]", "/a[(b)[c]]", "/a[(b)/c]", "/a[b and 1]", "/a[b or not(c)]", "/a[@b/.]",
    "1", "'a'", "$x", "count(/a)", "/a = /b", "/a and /b", "/a or /b", "-/a", "/a | a", "/a | 1", "/a | //.", "(/a)[1]", "(/a)/b", "(/a | /b)/c", "id('a')", "/a[@b[c]]",
    "/a[self::node()[b]]", "/a[b and (c | d)]", "string(/a)",
]


class Forms(unittest.TestCase):
    def test_forms(self):
        for text in FORMS:
            found = example(text)
            self.assertTrue(found is None or isinstance(found, tuple), text)
            self.assertTrue(contained(text, text), text)

    def test_no_forms(self):
        for text in NO_FORMS:
            for call in (lambda: contained(text, "/a"), lambda: contained("/a", text), lambda: equivalent(text, "/a"), lambda: equivalent("/a", text),
                         lambda: counterexample(text, "/a"), lambda: counterexample("/a", text), lambda: is_counterexample(1, text, "/a"),
                         lambda: is_counterexample(1, "/a", text), lambda: example(text)):
                with self.assertRaises(NotForm, msg=text):
                    call()

    def test_errors_in_order(self):
        bad = {BadValue: 1, NotPath: "/a[", NotForm: "a"}
        for first, one in bad.items():
            self.assertRaises(first, example, one)
            for second, other in bad.items():
                for call in (contained, equivalent, counterexample):
                    self.assertRaises(first, call, one, other)
                    self.assertRaises(first, call, one, "/a")
                    self.assertRaises(second, call, "/a", other)
                self.assertRaises(first, is_counterexample, 1, one, other)
                self.assertRaises(second, is_counterexample, 1, "/a", other)
        with self.assertRaises(NotPath) as caught:
            contained("/a", "/a b")
        self.assertEqual(caught.exception.at, 3)

    def test_no_texts(self):
        for thing in STRANGE + [1, (), read("<a/>")]:
            self.assertRaises(BadValue, contained, thing, "/a")
            self.assertRaises(BadValue, contained, "/a", thing)
            self.assertRaises(BadValue, equivalent, thing, 1)
            self.assertRaises(BadValue, equivalent, "/a", thing)
            self.assertRaises(BadValue, counterexample, thing, "a")
            self.assertRaises(BadValue, counterexample, "/a", thing)
            self.assertRaises(BadValue, is_counterexample, thing, thing, "/a")
            self.assertRaises(BadValue, is_counterexample, thing, "/a", thing)
            self.assertRaises(BadValue, example, thing)

    def test_names_of_arguments(self):
        self.assertIs(contained(one="/a", other="/*"), True)
        self.assertIs(equivalent(one="/a", other="/*"), False)
        self.assertIsNone(counterexample(one="/a", other="/*"))
        self.assertIs(is_counterexample(thing=1, one="/a", other="/*"), False)
        self.assertEqual(example(one="/a"), ("<a/>", (0,)))


class Told(unittest.TestCase):
    CONTAINED = [
        ("//a", "//*"), ("/a/*//b", "/a//*/b"), ("/a//*/b", "/a/*//b"), ("/a[.//b]", "/a[b] | /a[*//b]"), ("/a", "/*"), ("/a", "//a"), ("/a/b", "/*/*"), ("/a[b]", "/a"),
        ("/a[b and c]", "/a[b]"), ("/a[b]", "/a[b or c]"), ("/a[b][c]", "/a[c and b]"), ("/a[b/c]", "/a[b]"), ("/a[b/c]", "/a[.//c]"), ("/a/@x", "/a/@*"), ("/a/@x", "//@x"),
        ("/a[@x]", "/a[@*]"), ("/a/b", "//b"), ("/", "/."), ("//a//b", "//b"), ("/a//b", "//b"), ("//a/b[c]", "//*[c]"), ("/*/self::a", "/a"), ("/a", "/self::a | /a"),
        ("/self::a", "/b"), ("/@x", "/b"), ("/*/self::a/self::b", "/c"), ("/a[self::b]", "/c"), ("//a", "/a | /*//a"), ("/a | /b", "/*"), ("/descendant-or-self::a", "//a"),
        ("//a[descendant-or-self::b]", "//a[.//b]"), ("//*[descendant-or-self::b]", "//b | //*[.//b]"), ("/a//b//c", "//b//c"), ("/a[b[c]/d]", "/a[b/c][b/d]"), ("//a[.]", "//a"),
        ("/a/b | /a/c", "/a/*"), ("/a/@x", "//*/@x"), ("//@x", "//*/@x"), ("/a[b/@x]", "/a[.//@x]"), ("/a[@x or @y]", "/a[@*]"), ("/a/b/c/d", "//*/*/*"), ("/*/*/*", "/*//*"),
    ]
    OPEN = [
        ("//*", "//a"), ("/*", "/a"), ("//a", "/a"), ("/a[.//b]", "/a[b]"), ("/a//b", "/a/b"), ("/a//b", "/a/b | /a/*/b"), ("/a[b or c]", "/a[b]"), ("/a[b][c]", "/a[b/c]"),
        ("/a/@*", "/a/@x"), ("/a[@*]", "/a[@x]"), ("/", "/a"), ("/a", "/"), ("/a[b/c][b/d]", "/a[b[c]/d]"), ("/a[b/c]", "/a[c]"), ("/*//b", "/a//b"), ("/a/*", "/a/b | /a/c"),
        ("//a[.//b]", "//a[descendant-or-self::b[c]]"), ("//@x", "/*/@x"), ("/a/b/@x", "/a/b"), ("/a/b", "/a/b/@x"), ("/a[b[c]//d]", "/a[b/c/d]"), ("/*/*//*", "/*/*/*"), ("/a | /b", "/a"),
    ]

    def test_contained(self):
        for one, other in self.CONTAINED:
            self.assertIs(contained(one, other), True, (one, other))
            self.assertIsNone(counterexample(one, other))

    def test_not_contained(self):
        for one, other in self.OPEN:
            self.assertIs(contained(one, other), False, (one, other))
            self.assert_counterexample(counterexample(one, other), one, other)

    def assert_counterexample(self, found, one, other):
        text, place = found
        tree = read(text)
        self.assertIn(place, select(one, tree)[1])
        self.assertNotIn(place, select(other, tree)[1])
        self.assertIs(is_counterexample(found, one, other), True)

    def test_equivalent(self):
        told = {("/a/*//b", "/a//*/b"): True, ("//a", "/descendant::a"): True, ("/a[b][c]", "/a[c and b]"): True, ("/a | /b", "/b | /a"): True, ("//a", "//*"): False, ("/a", "/b"): False,
                ("/self::a", "/@b"): True, ("//a", "/a | //*/a"): True, ("//.//a", "//a"): True, ("/a[b or c]", "/a[b] | /a[c]"): True, ("/a/b", "/a[b]"): False, ("//*/*", "/*//*"): True,
                ("/a[.//b]", "/a[b or *//b]"): True, ("//@x", "//*/@x"): True, ("/", "/self::node()"): True, ("/a[descendant-or-self::a]", "/a"): True}
        for (one, other), found in told.items():
            self.assertIs(equivalent(one, other), found, (one, other))
            self.assertIs(equivalent(other, one), found)

    def test_examples(self):
        for text in ("/", "/a", "//a", "/*", "//@x", "/a/@*", "/a[@x][@*]/@*", "/a[b and c or d]/e", "//a[.//b[@c]]//d", "/a/self::a", "//*[self::a]", "/e0/*/e1", "/a[@e0]/@*"):
            found = example(text)
            self.assertIsInstance(found, tuple)
            self.assertIn(found[1], select(text, read(found[0]))[1], text)
        for text in ("/@a", "/*/self::a/self::b", "/self::*", "/self::a", "/a[self::b]", "/a/b[self::a or self::c]", "/@* | /self::a", "/a[b[self::c]]", "/self::a[b]//c", "/self::*/@a"):
            self.assertIsNone(example(text), text)

    def test_is_counterexample(self):
        good = ("<a><b/></a>", (0, 0))
        self.assertIs(is_counterexample(good, "//b", "/b"), True)
        for thing in [("<a><b/></a>", (0,)), ("<a><b/></a>", (0, 1)), ("<a><b/></a>", [0, 0]), ["<a><b/></a>", (0, 0)], ("<a><b/>", (0, 0)), ("", ()), ("<a><b/></a>",), good + (1,),
                      ("<b/>", (0,)), ("<a><b/></a>", (0, True)), ("<a><b/></a>", (0, False)), ("<a><b/></a>", (0, 0.0)), ("<a><b/></a>", None), (None, (0, 0)), (b"<a><b/></a>", (0, 0)), (read("<a><b/></a>"), (0, 0)),
                      "<a><b/></a>", (), ("<a><b/></a>", (0, "0")), ("<a><b/></a>", (0, "@b")), ((0, 0), "<a><b/></a>")] + STRANGE:
            self.assertIs(is_counterexample(thing, "//b", "/b"), False, thing)
        self.assertIs(is_counterexample(good, "//b", "//*"), False)
        self.assertIs(is_counterexample(("<a b=''/>", (0, "@b")), "//@*", "//@a"), True)
        self.assertIs(is_counterexample(("<?xml version='1.0'?><!--x--><a>t</a>", ()), "/", "/a"), True)
        self.assertIs(is_counterexample(("<!--x--><a>t</a>", (1,)), "/a", "/b"), True)


class Drawn(unittest.TestCase):
    def setUp(self):
        self.trees = [read(text) for text in small_documents(4, ["a", "b", "c"])]
        self.trees += [read(text) for text in small_documents(3, ["a x=''", "a", "b y=''", "c"])]

    def selected(self, text):
        function = compiled(tree_of(text))
        found = []
        for tree in self.trees:
            nodes = function(tree.root, 1, 1, start_context(tree.root, World()))[1]
            found.append({node.order for node in nodes})
        return found

    def test_like_small_documents(self):
        choices = random.Random(40)
        drawer = Drawer(choices)
        counts = {True: 0, False: 0}
        while sum(counts.values()) < 700:
            one = drawer.path()
            other = drawer.other_than(one) if choices.random() < 0.6 else drawer.path()
            try:
                told, found, shown = contained(one, other), counterexample(one, other), example(one)
            except (NotForm, NotPath):
                continue
            counts[told] += 1
            left, right = self.selected(one), self.selected(other)
            if told:
                self.assertIsNone(found)
                self.assertTrue(all(some <= others for some, others in zip(left, right)), (one, other))
            else:
                self.assertTrue(is_counterexample(found, one, other), (one, other, found))
            if shown is None:
                self.assertFalse(any(left), one)
            else:
                self.assertIn(shown[1], select(one, read(shown[0]))[1])
            self.assertEqual(equivalent(one, other), told and contained(other, one))
        self.assertGreater(min(counts.values()), 150)

    def test_is_counterexample_on_all_nodes(self):
        choices = random.Random(41)
        drawer = Drawer(choices)
        texts = ["<a x=''><b/><a><b/>t<!--c--></a></a>", "<b><a><a y=''/></a></b>"]
        for _ in range(150):
            one, other = drawer.path(), drawer.path()
            for text in texts:
                tree = read(text)
                try:
                    told = [is_counterexample((text, place), one, other) for place in places(tree)]
                except NotForm:
                    break
                left, right = select(one, tree)[1], select(other, tree)[1]
                self.assertEqual(told, [place in left and place not in right for place in places(tree)])

    def test_at_the_bounds(self):
        def stars(many):
            return "/".join(["*"] * many)
        told = [
            ("//a//b//c", f"/{stars(70)}//c", False), (f"//*/{stars(77)}", f"//{stars(76)}", True), (f"//{stars(76)}", f"//*/{stars(77)}", False),
            ("/a[.//b][.//c][.//d]", f"/a[{stars(25)}/b][{stars(25)}/c][{stars(25)}/d]", False),
            ("//a" + "/a" * 30 + "//b" + "/b" * 20 + "//c" + "/c" * 20, "//a" + "/*" * 30 + "//b" + "/*" * 20 + "//c" + "/*" * 20, True),
            ("/" + "/".join(["a[b]"] * 39), "//a[b]" * 3, True), ("//a[b]" * 3, "/" + "/".join(["a[b]"] * 39), False),
            ("/a[b or c][d or e][f or g]/h", "/a[b]/h | /a[c]/h | /a[d]/h | /*/h", True), ("/a[b or c][d or e][f or g]/h", "/a[b]/h | /a[c][d]/h | /a[d]/h | /*[e][g]/h", False),
            ("/descendant-or-self::a/descendant-or-self::*/descendant-or-self::*[x or y][z or w][v or u]" + "/a" * 60, "//*[x]" + "/a" * 60 + " | //*[y]" + "/a" * 60, True),
            ("//a/*/*/*/*/*//a/*/*/*/*/*//b", "//a/*/*//*/*/*/*//a/*//*/*/b", False), (f"/a//{stars(5)}//{stars(70)}//b", f"/a/{stars(77)}//b | /*//b", True),
            ("/" + "a[" * 19 + ".//b" + "]" * 19, "/*[" + "a[" * 18 + ".//*" + "]" * 19, True), (f"//{stars(79)}/@x", f"//{stars(80)}/@x", False),
            ("/a//b", "/a/b | /a/*/b | /a/*/*/b | /a/*/*/*//b", True), ("/a//b", "/a/b | /a/*/b | /a/*/*/b | /a/*/*/*/*//b", False),
            (f"/a[.//{stars(35)}/b][.//{stars(35)}/c]", f"/a[.//{stars(35)}/*] | /*[{stars(30)}/b]", True),
        ]
        for one, other, found in told:
            self.assertIs(contained(one, other), found, (one, other))
            shown = counterexample(one, other)
            if found:
                self.assertIsNone(shown)
            else:
                self.assertTrue(is_counterexample(shown, one, other))
                self.assertLessEqual(len(shown[1]), 200)
                self.assertLessEqual(shown[0].count("<"), 20000)
            self.assertEqual(shown, counterexample(one, other))

    def test_the_examples_of_the_document(self):
        self.assertEqual([contained("/a/*//b", "/a//*/b"), contained("/a[.//b]", "/a[b] | /a[*//b]"), contained("//*", "//a")], [True, True, False])


if __name__ == "__main__":
    unittest.main()
