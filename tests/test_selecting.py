"""[4.8], [4.7], [3]: paths evaluated on trees."""

import random
import unittest

from pathloom.documents import read
from pathloom.errors import BadValue, Failed, NotPath
from pathloom.places import places
from pathloom.selecting import select
from tests.shown import STRANGE

TREE = read("<r id='top'><a id='x'>1</a><a id='y'>2<b/>x</a><c:d id='x y'> 3\n</c:d><e/><!--k--><?p q?></r>")


def fault(*arguments):
    try:
        select(*arguments)
    except Failed as error:
        return error.fault
    return None


class Select(unittest.TestCase):
    def test_each_sort(self):
        told = {"/": ("nodes", [()]), "//a": ("nodes", [(0, 0), (0, 1)]), "//q": ("nodes", []), "//a/@id": ("nodes", [(0, 0, "@id"), (0, 1, "@id")]),
                "string(//a)": ("text", "1"), "''": ("text", ""), "1.50": ("number", "1.5"), "-1 div 3": ("number", "-0.333333333"),
                "0 div 0": ("number", "NaN"), "1 div 0": ("number", "Infinity"), "-1 div 0": ("number", "-Infinity"), "-0": ("number", "0"),
                "true()": ("truth", True), "1 = 2": ("truth", False), "//a | /": ("nodes", [(), (0, 0), (0, 1)]), "(//a)[2]": ("nodes", [(0, 1)]),
                "position()": ("number", "1"), "last()": ("number", "1"), "5 mod -2": ("number", "1"), "-5 mod 2": ("number", "-1"),
                "1.5 mod 0.4": ("number", "0.3"), "0.1 + 0.2 = 0.3": ("truth", True), "1 div 3 * 3": ("number", "0.999999999"),
                "//a[2]/preceding-sibling::*/@id": ("nodes", [(0, 0, "@id")]), "//b/ancestor::*": ("nodes", [(0,), (0, 1)])}
        for text, found in told.items():
            self.assertEqual(select(text, TREE), found, text)
            self.assertIs(type(select(text, TREE)[1]), type(found[1]))

    def test_at_places(self):
        told = {((0,), "a"): [(0, 0), (0, 1)], ((0, 1), "."): [(0, 1)], ((0, 1), "node()"): [(0, 1, 0), (0, 1, 1), (0, 1, 2)],
                ((0, 1, "@id"), ".."): [(0, 1)], ((0, 1, 1), "/"): [()], ((0, 1, 0), "following::*"): [(0, 1, 1), (0, 2), (0, 3)],
                ((0, 4), "self::comment()"): [(0, 4)], ((0, 0), "//a[. = current()]"): [(0, 0)], ((0, 1), "current()"): [(0, 1)],
                ((0, 1), "/r/*[count(current()/b) = 1][1]"): [(0, 0)]}
        for (place, text), found in told.items():
            self.assertEqual(select(text, TREE, place), ("nodes", found), (place, text))
        self.assertEqual(select("generate-id()", TREE, (0, 0)), ("text", "n0d3"))
        self.assertEqual(select("generate-id()", TREE), ("text", "n0d0"))
        self.assertEqual(select("generate-id(nothing)", TREE), ("text", ""))

    def test_variables(self):
        told = {"$x + 1": ("number", "5"), "$t": ("text", "u\u00e9"), "$b": ("truth", True), "not($c)": ("truth", True), "$n": ("number", "-7"),
                "$x = 4": ("truth", True), "//a[$x - 3]": ("nodes", [(0, 0)]), "//a[$b]": ("nodes", [(0, 0), (0, 1)]), "//a[$t = 'q']": ("nodes", []),
                "string($c)": ("text", "false"), "$a:b.c-d": ("number", "0"), "//*[$x]": ("nodes", [(0, 3)]), "/r/*[$x]": ("nodes", [(0, 3)])}
        given = {"x": 4, "t": "u\u00e9", "b": True, "c": False, "n": -7, "a:b.c-d": 0}
        for text, found in told.items():
            self.assertEqual(select(text, TREE, (), given), found, text)
        self.assertEqual(given, {"x": 4, "t": "u\u00e9", "b": True, "c": False, "n": -7, "a:b.c-d": 0})
        self.assertEqual(select(text="$x", tree=TREE, place=(0,), variables={"x": 1}), ("number", "1"))
        self.assertEqual(select("1", TREE, (), {}), ("number", "1"))

    def test_failures(self):
        for text, word in (("$x", "variable"), ("count(1)", "nodes"), ("key('k', 'x')", "key"), ("key('k', nothing)", "key"), ("$x/a", "variable"),
                           ("document('')", "document"), ("document('x')", "document"), ("document(//a)", "document"), ("1 | $x", "nodes"), ("a[$x]", None),
                           ("r[$x]", "variable"), ("true() or $x", None), ("false() or $x", "variable"), ("concat($x, count(1))", "variable")):
            self.assertEqual(fault(text, TREE), word, text)
        self.assertEqual(fault("$x | a", TREE, (), {"x": "y"}), "nodes")
        self.assertEqual(fault("$x/a", TREE, (), {"x": 1}), "nodes")
        self.assertEqual(fault("$x[1]", TREE, (), {"x": True}), "nodes")
        self.assertEqual(fault("$y", TREE, (), {"x": True}), "variable")
        self.assertEqual(select("document(nothing)", TREE), ("nodes", []))

    def test_order_of_evaluation(self):
        # Two operands, or arguments, of which each one fails in another way.
        fails = {"variable": "$x", "nodes": "count(1)", "key": "key('a', 'b')", "document": "document('a')"}
        forms = ["{} + {}", "{} = {}", "{} < {}", "{} div {}", "concat({}, {})", "contains({}, {})", "substring('a', {}, {})", "{} or {}",
                 "translate({}, 'a', {})", "key({}, {})"]
        for form in forms:
            for one, text in fails.items():
                for other in fails.values():
                    self.assertEqual(fault(form.format(text, other), TREE), one)
        for one, text in fails.items():
            self.assertEqual(fault(f"{text} | 1", TREE), one)
            self.assertEqual(fault(f"1 | {text}", TREE), "nodes")
            self.assertEqual(fault(f"({text})[1]", TREE), one)
            self.assertEqual(fault(f"//a[{text}][count(2)]", TREE), one)
            self.assertEqual(fault(f"//a[false()][{text}]", TREE), None)
            self.assertEqual(fault(f"true() and {text}", TREE), one)

    def test_new_values(self):
        found = select("//a", TREE)
        found[1].append(1)
        self.assertEqual(select("//a", TREE), ("nodes", [(0, 0), (0, 1)]))
        select("/r/node()", TREE)[1].clear()
        self.assertEqual(len(places(TREE)), len(places(read("<r id='top'><a id='x'>1</a><a id='y'>2<b/>x</a><c:d id='x y'> 3\n</c:d>"
                                                             "<e/><!--k--><?p q?></r>"))))

    def test_equal_ways(self):
        pairs = [("//a", "/descendant::a"), ("//a[1]", "/descendant-or-self::node()/a[1]"), ("a/..", "self::node()[a]"), (".//@id", "descendant-or-self::*/@id"),
                 ("*[1]", "*[position() = 1]"), ("*[last()]", "*[position() = last()]"), ("a | e", "*[self::a or self::e]"), ("e | a", "a | e"),
                 ("following::*", "ancestor-or-self::node()/following-sibling::node()/descendant-or-self::*"),
                 ("preceding::*", "ancestor-or-self::node()/preceding-sibling::node()/descendant-or-self::*"), ("(a)[2]", "a[2]"), ("a[b][1]", "a[b and true()]"),
                 ("ancestor::*[1]", "parent::*"), ("*[not(@id)]", "*[count(@id) = 0]"), ("text()", "node()[self::text()]")]
        for place in places(TREE):
            if place and isinstance(place[-1], str):
                continue
            for one, other in pairs:
                self.assertEqual(select(one, TREE, place), select(other, TREE, place), (one, other, place))

    def test_wide_and_deep(self):
        wide = read("<r>" + "<a b='1'>x</a>" * 1600 + "</r>")
        self.assertEqual(select("count(//a[. = 'x'][@b = 1])", wide), ("number", "1600"))
        self.assertEqual(select("//a[position() mod 400 = 0]", wide), ("nodes", [(0, 399), (0, 799), (0, 1199), (0, 1599)]))
        self.assertEqual(select("sum(//@b)", wide), ("number", "1600"))
        deep = read("<a>" * 200 + "</a>" * 200)
        self.assertEqual(select("count(//a//a)", deep), ("number", "199"))
        self.assertEqual(select("//a[not(a)]", deep), ("nodes", [(0,) * 200]))
        self.assertEqual(select("//a[not(a)]/ancestor::*[150]", deep), ("nodes", [(0,) * 50]))

    def test_large_numbers(self):
        big = "9" * 60
        self.assertEqual(select(f"{big} + 1", TREE), ("number", "1" + "0" * 60))
        self.assertEqual(select(f"{big} * {big}", TREE), ("number", str(int(big) ** 2)))
        self.assertEqual(select(f"'{big}' div 7", TREE)[0], "number")
        self.assertEqual(select("0.0000000005 + 0", TREE), ("number", "0.000000001"))
        self.assertEqual(select("-0.0000000005 + 0", TREE), ("number", "-0.000000001"))
        self.assertEqual(select("$x * 2", TREE, (), {"x": int(big)}), ("number", str(2 * int(big))))


class Errors(unittest.TestCase):
    def test_wrong_arguments(self):
        for thing in STRANGE + [TREE, 1, ()]:
            self.assertRaises(BadValue, select, thing, TREE)
            if thing is not TREE:
                self.assertRaises(BadValue, select, "a", thing)
            if thing != ():
                self.assertRaises(BadValue, select, "a", TREE, thing)
            if thing is not None and thing != {} and not isinstance(thing, dict):
                self.assertRaises(BadValue, select, "a", TREE, (), thing)
        for place in ([], [0], "", (1,), (-1,), (0, "id"), (0, "@q"), ("@id",), (True,), (0, 0, 0, 0), (0.0,), (None,), (0, ("@id",)), ((0,),)):
            self.assertRaises(BadValue, select, "a", TREE, place)
        for given in ({1: "a"}, {"a": 1.0}, {"a": None}, {"a": []}, {"": "x"}, {"1": "x"}, {"$a": "x"}, {"a b": 1}, {"a:": 1}, {"a": b""}, {"a": TREE},
                      {"a": 1, None: 2}, {("a",): 1}, [("a", 1)], {"a": "x", "b": ("x",)}):
            self.assertRaises(BadValue, select, "a", TREE, (), given)
        self.assertRaises(TypeError, select, "a")

    def test_no_path(self):
        for text, at in (("", 0), ("a b", 2), ("a[", 2), ("foo(a)", 3), ("a\u00e9", 1)):
            with self.assertRaises(NotPath) as caught:
                select(text, TREE)
            self.assertEqual(caught.exception.at, at)

    def test_the_earliest_is_raised(self):
        self.assertRaises(NotPath, select, "a b", 1, 1, 1)
        self.assertRaises(BadValue, select, 1, 1, 1, 1)
        for arguments in (("$x", 1, (), {}), ("$x", TREE, 1, {}), ("$x", TREE, (), 1)):
            self.assertRaises(BadValue, select, *arguments)
        self.assertRaises(Failed, select, "$x", TREE, (), {})


class Drawn(unittest.TestCase):
    def test_positions_in_predicates_one_by_one(self):
        choices = random.Random(31)
        for _ in range(200):
            names = [choices.choice("ab") for _ in range(choices.randrange(1, 9))]
            tree = read("<r>" + "".join(f"<{name}/>" for name in names) + "</r>")
            for axis, back in (("following-sibling", False), ("preceding-sibling", True)):
                at = choices.randrange(len(names))
                row = [index for index in range(len(names)) if (index < at if back else index > at) and names[index] == "a"]
                row = row[::-1] if back else row
                for many in (1, 2, 3):
                    self.assertEqual(select(f"{axis}::a[{many}]", tree, (0, at)), ("nodes", [(0, index) for index in row[many - 1:many]]))
                    self.assertEqual(select(f"{axis}::a[position() >= {many}][1]", tree, (0, at)), ("nodes", [(0, index) for index in row[many - 1:many]]))
                self.assertEqual(select(f"{axis}::a[last()]", tree, (0, at)), ("nodes", [(0, index) for index in row[-1:]]))


if __name__ == "__main__":
    unittest.main()
