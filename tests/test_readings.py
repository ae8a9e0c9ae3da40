"""[11.3], [11.4]: what paths read, and that nothing else turns their values."""

import random
import unittest

from pathloom.documents import read
from pathloom.contexts import World, start_context
from pathloom.edits import edited, followed, touched_parts
from pathloom.errors import BadValue, Failed, NotPath
from pathloom.evaluating import value_of
from pathloom.places import kind_at, places
from pathloom.reading_values import Place, Reader
from pathloom.readings import read_parts
from pathloom.selecting import select
from tests.edit_model import drawn_document, drawn_edit
from tests.plain_axes import Told
from tests.second_paths import AXES, Maker
from tests.shown import STRANGE

DOCUMENT = "<!--h--><r a='1' id='i'>x<s b='2'><t/>y</s><!--c--><?p q?><u>z</u></r>"
TREE = read(DOCUMENT)
TOLD = Told(TREE)
ORDER = ["children", "attributes", "name", "text", "parent"]


def rows(*parts):
    """Parts, given as tuples (place, part, part ..), in their order."""
    found = {(place, part) for place, *names in parts for part in names}
    return sorted(found, key=lambda row: (TOLD.index[row[0]], ORDER.index(row[1])))


def holders(inside):
    return [place for place in TOLD.places if TOLD.kind[place] in ("root", "element") and place[:len(inside)] == inside]


def string_of(place):
    """The parts of the string of a node."""
    if TOLD.kind[place] not in ("root", "element"):
        return [(place, "text")]
    inside = [other for other in TOLD.places if other[:len(place)] == place]
    return [(other, "children") for other in holders(place)] + [(other, "text") for other in inside if TOLD.kind[other] == "text"]


def axis_parts(axis, place):
    """What an axis reads, by the words of the document."""
    above = [place[:size] for size in range(len(place))]
    kind = TOLD.kind[place]
    has_children = kind in ("root", "element")
    parents = [(one, "parent") for one in [place, *above] if one != ()]
    children = [(one, "children") for one in above]
    siblings = [] if kind in ("attribute", "root") else [(place, "parent"), (place[:-1], "children")]
    beside = [(one, "children") for one in TOLD.axis(axis, place) if TOLD.kind[one] in ("root", "element")]
    return {"child": [(place, "children")] if has_children else [], "descendant": [(one, "children") for one in holders(place)] if has_children else [],
            "descendant-or-self": [(one, "children") for one in holders(place)] if has_children else [], "attribute": [(place, "attributes")] if kind == "element" else [],
            "parent": parents[:1] if place else [], "ancestor": parents, "ancestor-or-self": parents, "following-sibling": siblings, "preceding-sibling": siblings,
            "following": parents + children + beside, "preceding": parents + children + beside, "self": [], "namespace": []}[axis]


class Parts(unittest.TestCase):
    def check(self, told, place=(0,)):
        for text, found in told.items():
            self.assertEqual(read_parts(text, TREE, place), rows(*found), text)

    def test_each_axis_from_each_node(self):
        for place in TOLD.places:
            for axis in AXES:
                parts = axis_parts(axis, place)
                nodes = TOLD.axis(axis, place)
                named = [(one, "name") for one in nodes if TOLD.kind[one] == "element"]
                instructions = [(one, "name") for one in nodes if TOLD.kind[one] == "instruction"]
                for test, more in (("node()", []), ("*", []), ("text()", []), ("comment()", []), ("processing-instruction()", []), ("s", named), ("q", named),
                                   ("processing-instruction('p')", instructions), ("processing-instruction('z')", instructions)):
                    self.assertEqual(read_parts(f"{axis}::{test}", TREE, place), rows(*parts, *more), (axis, test, place))

    def test_from_the_root(self):
        self.check({"/": [((1, 1, 0), "parent"), ((1, 1), "parent"), ((1,), "parent")], "/*": [((1, 1, 0), "parent"), ((1, 1), "parent"), ((1,), "parent"), ((), "children")]}, (1, 1, 0))
        self.check({"/": [], "/r": [((), "children"), ((1,), "name")], "//s": [(place, "children") for place in holders(())] + [(place, "name") for place in holders((1,))]}, ())
        self.check({"/": [((1, "@a"), "parent"), ((1,), "parent")]}, (1, "@a"))

    def test_calls_with_the_context_node(self):
        for place in TOLD.places:
            named = [(place, "name")] if TOLD.kind[place] in ("element", "instruction") else []
            self.check({text: string_of(place) for text in ("string()", "string-length()", "normalize-space()", "number()", "string(.)", "concat(., '')", "sum(.)", ". + 1", "-.")}, place)
            self.check({"name()": named, "local-name()": named, "name(.)": named, "position()": [], "last()": [], "true()": [], "current()": [], ".": [], "boolean(.)": [], "not(.)": [],
                        "count(.)": [], "1": [], "'x'": []}, place)

    def test_functions_of_texts_and_numbers(self):
        first, axis = string_of((1, 1)), [((1,), "children")]
        for text in ("string(*)", "concat(*, 'x')", "concat('x', *)", "starts-with(*, 'x')", "starts-with('x', *)", "contains(*, 1)", "contains(1, *)", "substring-before(*, '')", "substring-after('', *)",
                     "substring(*, 1)", "substring('a', *)", "substring('a', 1, *)", "string-length(*)", "normalize-space(*)", "translate(*, '', '')", "translate('', *, '')", "translate('', '', *)",
                     "number(*)", "floor(*)", "ceiling(*)", "round(*)", "* + 1", "1 + *", "* - 1", "1 * *", "* div 2", "* mod 2", "-*"):
            self.assertEqual(read_parts(text, TREE, (1,)), rows(*first, *axis), text)
            self.assertEqual(read_parts(text.replace("*,", "q,").replace("*)", "q)"), TREE, (1,)).count(((1, 1, 1), "text")), 1 if "*" in text.replace("*,", "q,").replace("*)", "q)") else 0)

    def test_functions_of_lists(self):
        axis, every = [((1,), "children")], string_of((1, 1)) + string_of((1, 4))
        marks = [(place, "children") for place in holders(())] + [(place, "attributes") for place in holders(()) if place]
        ids = marks + [((1, "@id"), "text")]
        self.check({"sum(*)": axis + every, "id(*)": axis + every + ids, "id('x')": ids, "id(1)": ids, "count(*)": axis, "boolean(*)": axis, "not(*)": axis, "name(*)": axis + [((1, 1), "name")],
                    "local-name(*)": axis + [((1, 1), "name")], "name(@*)": [((1,), "attributes")], "name(processing-instruction())": axis + [((1, 3), "name")], "name(text())": axis,
                    "generate-id()": marks, "generate-id(@q)": marks, "generate-id(*)": marks, "document(@q)": [((1,), "attributes")], "name(q)": axis + [((1, 1), "name"), ((1, 4), "name")],
                    "sum(@*)": [((1,), "attributes"), ((1, "@a"), "text"), ((1, "@id"), "text")], "string(q)": axis + [((1, 1), "name"), ((1, 4), "name")]}, (1,))

    def test_comparisons(self):
        axis, every = [((1,), "children")], string_of((1, 1)) + string_of((1, 4))
        attributes = [((1,), "attributes"), ((1, "@a"), "text"), ((1, "@id"), "text")]
        for word in "= != < <= > >=".split():
            self.check({f"* {word} 1": axis + every, f"'x' {word} *": axis + every, f"* {word} @*": axis + every + attributes, f"* {word} true()": axis, f"(1 = 2) {word} *": axis,
                        f"* {word} @q": axis + every + [((1,), "attributes")], f"1 {word} 2": [], f"* {word} (@* = @*)": axis + attributes}, (1,))

    def test_or_and_and_predicates(self):
        axis = [((1,), "children")]
        self.check({"* or @*": axis, "@q or *": axis + [((1,), "attributes")], "* and @*": axis + [((1,), "attributes")], "nothing/q and @*": axis + [((1, 1), "name"), ((1, 4), "name")],
                    "*[1]": axis, "*[last()]": axis, "*[@b]": axis + [((1, 1), "attributes"), ((1, 4), "attributes")], "*[1][@b]": axis + [((1, 1), "attributes")],
                    "*[t]": axis + [((1, 1), "children"), ((1, 4), "children"), ((1, 1, 0), "name")], "(*)[2][@b]": axis + [((1, 4), "attributes")], "*[string(@b) = '2']":
                    axis + [((1, 1), "attributes"), ((1, 4), "attributes"), ((1, 1, "@b"), "text")], "* | @*": axis + [((1,), "attributes")],
                    "*[. = 'z']": axis + string_of((1, 1)) + string_of((1, 4)), "*[@b][q]": axis + [((1, 1), "attributes"), ((1, 4), "attributes"), ((1, 1), "children"), ((1, 1, 0), "name")],
                    "*[false()][q]": axis, "s/t": axis + [((1, 1), "name"), ((1, 4), "name"), ((1, 1), "children"), ((1, 1, 0), "name")]}, (1,))

    def test_variables_and_places(self):
        self.assertEqual(read_parts("$x + 1", TREE, (), {"x": 1}), [])
        self.assertEqual(read_parts("*[$x]/@*", TREE, (1,), {"x": 2}), rows(((1,), "children"), ((1, 4), "attributes")))
        self.assertEqual(read_parts(text="* = $x", tree=TREE, place=(), variables={"x": "y"}), rows(((), "children"), *string_of((1,))))
        self.assertEqual(read_parts("current()/@a", TREE, (1,)), [((1,), "attributes")])
        read_parts("*", TREE, (1,)).clear()
        self.assertEqual(read_parts("*", TREE, (1,)), [((1,), "children")])

    def test_example(self):
        told = [((), "children"), ((0,), "children"), ((0,), "name"), ((0, 0), "name"), ((0, 1), "name")]
        self.assertEqual(read_parts("/r/a", read("<r><a/><b/></r>")), told)

    def test_large(self):
        tree = read("<r>" + "<a b='1'>x</a>" * 1600 + "</r>")
        self.assertEqual(len(read_parts("//a/following::node()", tree)), 1602 + 1601 + 1601)
        self.assertEqual(len(read_parts("//a[.//text() = 'x']", tree)), 1602 + 1601 + 1600)
        deep = read("<a>" * 200 + "</a>" * 200)
        self.assertEqual(len(read_parts("//a//a", deep)), 201 + 200)


class Errors(unittest.TestCase):
    def test_wrong_arguments(self):
        for thing in STRANGE + [1, (), TREE]:
            self.assertRaises(BadValue, read_parts, thing, TREE)
            if thing is not TREE:
                self.assertRaises(BadValue, read_parts, "a", thing)
            if thing != ():
                self.assertRaises(BadValue, read_parts, "a", TREE, thing)
            if thing is not None and thing != {} and not isinstance(thing, dict):
                self.assertRaises(BadValue, read_parts, "a", TREE, (), thing)
        self.assertRaises(BadValue, read_parts, "a", TREE, (), {"1": 1})
        self.assertRaises(BadValue, read_parts, "a", TREE, (), {"a": 1.5})
        self.assertRaises(BadValue, read_parts, "a", TREE, (9,))
        self.assertRaises(NotPath, read_parts, "a b", 1, 1, 1)

    def test_failures(self):
        for text, word in (("$x", "variable"), ("count(1)", "nodes"), ("key('k', 'x')", "key"), ("document('')", "document"), ("1 | $x", "nodes"), ("sum('x')", "nodes"), ("name(1)", "nodes"),
                           ("generate-id(1)", "nodes"), ("1[1]", "nodes"), ("'a'/b", "nodes"), ("concat($x, count(1))", "variable"), ("local-name(true())", "nodes")):
            with self.assertRaises(Failed) as caught:
                read_parts(text, TREE)
            self.assertEqual(caught.exception.fault, word, text)
        self.assertEqual(read_parts("true() or $x", TREE), [])


PATHS = [
    "*", "@*", "//a", "//*[@k]", "*[1]", "*[last()]", "*[2]/node()", "//text()", "count(//b)", "string()", "string(//a)", "sum(//@k)", "//a = '1'", "* > 1", "@k = //b/@k", "name()", "name(*)",
    "//*[. = 'x']", "following::*", "preceding::node()[1]", "following-sibling::*", "preceding-sibling::a", "ancestor::*", "..", "../*", "ancestor-or-self::a[1]", "id('1')", "id(//@k)/..",
    "generate-id()", "generate-id(*)", "//comment()", "processing-instruction('p')", "//processing-instruction()", "count(*) = 2", "//a[b]", "//*[a or @k]", "//a[count(*) > 1]", "normalize-space()",
    "* | ..", "(//*)[2]", "//*[not(@id)]", "string-length(*)", "//a/@k", "//*[@k = 1][1]", "descendant-or-self::*[last()]", "/", "/*/*", "//b[following::a]", "//node()[position() = 3]", "number() + 1",
    "//*[name() = 'b']", "local-name(//b)", "translate(., '12', '34')", "//*[local-name(..) = 'a']", "starts-with(*, '1')", "-*", "* = true()", "//a[text() = '1']", "count(//node()) mod 3", "self::b", "//*/self::a",
    "concat(name(..), @k)", "boolean(//c)", "//*[preceding-sibling::b]", "//@*[. = '2']", "count(ancestor::*)", "string(@id)", "//c[@id]/following-sibling::node()[1]", "*[position() mod 2 = 1]", "position() + last()",
]


class Promise(unittest.TestCase):
    def test_what_is_not_touched_stays(self):
        choices = random.Random(60)
        many = 0
        for _ in range(7000):
            tree = read(drawn_document(choices))
            edit = drawn_edit(choices, tree)
            try:
                behind = edited(tree, edit)
            except BadValue:
                continue
            touched = set(touched_parts(tree, edit))
            for _ in range(6):
                place = choices.choice(places(tree))
                text = choices.choice(PATHS)
                there = followed(tree, edit, place)
                if there is None or touched & set(read_parts(text, tree, place)):
                    continue
                many += 1
                sort, value = select(text, tree, place)
                if sort == "nodes":
                    value = [followed(tree, edit, one) for one in value]
                    self.assertNotIn(None, value)
                    value = sorted(value, key=places(behind).index)
                self.assertEqual(select(text, behind, there), (sort, value), (text, place, edit))
        self.assertGreater(many, 3000)

    def test_the_same_values_as_without_notes(self):
        choices = random.Random(62)
        maker = Maker(choices)
        counts = {}
        for _ in range(6000):
            path = maker.tree(choices.choice([4, 8, 14]))
            node = choices.choice(read(drawn_document(choices)).nodes)
            found = []
            for evaluate in (lambda context: value_of(path, context), lambda context: Reader(context).value_of_tree(path, Place(node, 1, 1))):
                context = start_context(node, World())
                context.variables = {"a": ("number", 10 ** 9), "x1": ("text", "1"), "id": ("truth", True)}
                try:
                    found.append(evaluate(context))
                except Failed as error:
                    found.append(error.fault)
            self.assertEqual(found[0], found[1], path)
            sort = found[0] if isinstance(found[0], str) else found[0][0]
            counts[sort] = counts.get(sort, 0) + 1
        self.assertGreater(len(counts), 6)

    def test_each_part_once_and_there(self):
        choices = random.Random(61)
        for _ in range(400):
            tree = read(drawn_document(choices))
            order = places(tree)
            for _ in range(5):
                found = read_parts(choices.choice(PATHS), tree, choices.choice(order))
                self.assertEqual(found, sorted(set(found), key=lambda row: (order.index(row[0]), ORDER.index(row[1]))))
                for place, part in found:
                    kind = kind_at(tree, place)
                    self.assertTrue({"children": kind in ("root", "element"), "attributes": kind == "element", "parent": place != (), "text": kind not in ("root", "element"),
                                     "name": kind in ("element", "instruction")}[part])


if __name__ == "__main__":
    unittest.main()
