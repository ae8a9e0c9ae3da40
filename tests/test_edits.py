"""[11.1], [11.2]: edits, held against a model."""

import random
import unittest

from pathloom.documents import read
from pathloom.edits import edited, followed, touched_parts
from pathloom.errors import BadValue
from pathloom.places import kind_at, name_at, places, string_at
from pathloom.writing import write
from tests.edit_model import Model, drawn_document, drawn_edit
from tests.shown import STRANGE

DOCUMENT = "<!--h--><r a='1' b='2'>x<s c='3'>y</s>z<!--k--><?p q?><t/></r><?e?>"
TREE = read(DOCUMENT)


def told(edit, document=DOCUMENT):
    return write(edited(read(document), edit))


def shown(tree):
    return [(place, kind_at(tree, place), name_at(tree, place), string_at(tree, place)) for place in places(tree)]


class Edits(unittest.TestCase):
    def check(self, edits, document="<r a='1' b='2'>x<s c='3'>y</s>z<!--k--><?p q?><t/></r>"):
        for edit, found in edits.items():
            self.assertEqual(told(edit, document), found, edit)

    def test_texts(self):
        self.check({
            ("text", (0, 0), "&\n"): '<r a="1" b="2">&amp;\n<s c="3">y</s>z<!--k--><?p q?><t/></r>', ("text", (0, 0), ""): '<r a="1" b="2"><s c="3">y</s>z<!--k--><?p q?><t/></r>',
            ("text", (0, 1, 0), ""): '<r a="1" b="2">x<s c="3"/>z<!--k--><?p q?><t/></r>', ("text", (0, 3), ""): '<r a="1" b="2">x<s c="3">y</s>z<!----><?p q?><t/></r>',
            ("text", (0, 3), "- >"): '<r a="1" b="2">x<s c="3">y</s>z<!--- >--><?p q?><t/></r>', ("text", (0, 4), ""): '<r a="1" b="2">x<s c="3">y</s>z<!--k--><?p?><t/></r>',
            ("text", (0, 4), "? >?"): '<r a="1" b="2">x<s c="3">y</s>z<!--k--><?p ? >??><t/></r>', ("text", (0, 0), "x"): '<r a="1" b="2">x<s c="3">y</s>z<!--k--><?p q?><t/></r>'})

    def test_attributes_and_names(self):
        document = "<r a='1' b='2'>x<?p q?></r>"
        self.check({
            ("set", (0,), "a", "\t<"): '<r a="&#9;&lt;" b="2">x<?p q?></r>', ("set", (0,), "c:d", ""): '<r a="1" b="2" c:d="">x<?p q?></r>', ("set", (0,), "b", "2"): '<r a="1" b="2">x<?p q?></r>',
            ("unset", (0,), "a"): '<r b="2">x<?p q?></r>', ("unset", (0,), "b"): '<r a="1">x<?p q?></r>', ("rename", (0,), "xml"): '<xml a="1" b="2">x<?p q?></xml>',
            ("rename", (0, 1), "x:y"): '<r a="1" b="2">x<?x:y q?></r>', ("rename", (0,), "r"): '<r a="1" b="2">x<?p q?></r>'}, document)

    def test_inserts(self):
        document = "<r>x<s/>y</r>"
        self.check({
            ("insert", (0,), 0, "a"): "<r>ax<s/>y</r>", ("insert", (0,), 1, "a"): "<r>xa<s/>y</r>", ("insert", (0,), 1, "a<t/>b"): "<r>xa<t/>b<s/>y</r>", ("insert", (0,), 2, "<t/>b"): "<r>x<s/><t/>by</r>",
            ("insert", (0,), 3, "b"): "<r>x<s/>yb</r>", ("insert", (0, 1), 0, "<![CDATA[<]]>&gt;"): "<r>x<s>&lt;&gt;</s>y</r>", ("insert", (0,), 1, ""): "<r>x<s/>y</r>",
            ("insert", (), 0, "<!--h--><?p?>"): "<!--h--><?p?><r>x<s/>y</r>", ("insert", (), 1, "<!--h-->"): "<r>x<s/>y</r><!--h-->", ("insert", (), 1, ""): "<r>x<s/>y</r>"}, document)

    def test_deletes_and_moves(self):
        document = "<r>x<s>y</s>z<t/><!--c--></r>"
        self.check({
            ("delete", (0, 1)): "<r>xz<t/><!--c--></r>", ("delete", (0, 0)): "<r><s>y</s>z<t/><!--c--></r>", ("delete", (0, 1, 0)): "<r>x<s/>z<t/><!--c--></r>",
            ("move", (0, 1), (0,), 5): "<r>xz<t/><!--c--><s>y</s></r>", ("move", (0, 1), (0,), 1): "<r>x<s>y</s>z<t/><!--c--></r>", ("move", (0, 1), (0,), 2): "<r>x<s>y</s>z<t/><!--c--></r>",
            ("move", (0, 1), (0,), 3): "<r>xz<s>y</s><t/><!--c--></r>", ("move", (0, 2), (0,), 0): "<r>zx<s>y</s><t/><!--c--></r>", ("move", (0, 0), (0, 1), 1): "<r><s>yx</s>z<t/><!--c--></r>",
            ("move", (0, 0), (0, 1), 0): "<r><s>xy</s>z<t/><!--c--></r>", ("move", (0, 3), (0, 1), 0): "<r>x<s><t/>y</s>z<!--c--></r>", ("move", (0, 1), (0, 3), 0): "<r>xz<t><s>y</s></t><!--c--></r>",
            ("move", (0, 4), (), 0): "<!--c--><r>x<s>y</s>z<t/></r>", ("move", (0, 4), (), 1): "<r>x<s>y</s>z<t/></r><!--c-->", ("move", (0, 1, 0), (0,), 0): "<r>yx<s/>z<t/><!--c--></r>"}, document)
        self.assertEqual(told(("delete", (0,)), "<!--h--><r/>"), "<r/>")
        self.assertEqual(told(("move", (0,), (1,), 0), "<!--h--><r/>"), "<r><!--h--></r>")
        self.assertEqual(told(("move", (1,), (), 0), "<!--h--><r/>"), "<r/><!--h-->")

    def test_followed(self):
        edits = {
            ("delete", (0, 1)): {(): (), (0,): (0,), (0, 0): (0, 0), (0, 1): None, (0, 1, 0): None, (0, 2): None, (0, 3): (0, 1)},
            ("move", (0, 2), (0,), 0): {(0, 0): None, (0, 2): (0, 0), (0, 1): (0, 1), (0, 1, 0): (0, 1, 0), (0, 3): (0, 2)},
            ("text", (0, 0), ""): {(0, 0): None, (0, 1): (0, 0), (0, 1, 0): (0, 0, 0)}, ("insert", (0,), 0, "a"): {(0, 0): None, (0, 1): (0, 1)},
            ("insert", (0,), 1, "a"): {(0, 0): (0, 0), (0, 1): (0, 1)}, ("unset", (0, 1), "k"): {(0, 1, "@k"): None, (0, 1, "@l"): (0, 1, "@l")},
            ("move", (0, 1), (0, 3), 0): {(0, 1): (0, 1, 0), (0, 1, "@k"): (0, 1, 0, "@k"), (0, 1, 0): (0, 1, 0, 0), (0, 2): None, (0, 3): (0, 1)},
            ("set", (0, 1), "m", ""): {(0, 1, "@l"): (0, 1, "@l")}, ("rename", (0, 1), "q"): {(0, 1): (0, 1)}}
        for edit, rows in edits.items():
            for place, found in rows.items():
                self.assertEqual(followed(read("<r>x<s k='' l=''>y</s>z<t/></r>"), edit, place), found, (edit, place))

    def test_touched(self):
        document = "<r>x<s k='1'>y</s>z<t/></r>"
        edits = {
            ("delete", (0, 1)): [((0,), "children"), ((0, 0), "text"), ((0, 1), "parent"), ((0, 2), "parent")], ("text", (0, 0), "x"): [], ("text", (0, 0), "q"): [((0, 0), "text")],
            ("text", (0, 0), ""): [((0,), "children"), ((0, 0), "text"), ((0, 0), "parent")], ("set", (0, 1), "k", "2"): [((0, 1, "@k"), "text")], ("set", (0, 1), "k", "1"): [],
            ("set", (0, 1), "l", ""): [((0, 1), "attributes")], ("unset", (0, 1), "k"): [((0, 1), "attributes"), ((0, 1, "@k"), "parent")], ("rename", (0, 1), "q"): [((0, 1), "name")],
            ("rename", (0, 1), "s"): [], ("insert", (0,), 1, ""): [], ("insert", (0,), 1, "q"): [((0, 0), "text")], ("insert", (0,), 0, "q"): [((0,), "children"), ((0, 0), "parent")],
            ("insert", (0, 3), 0, "q"): [((0, 3), "children")], ("move", (0, 3), (0,), 0): [((0,), "children")], ("move", (0, 3), (0,), 3): [],
            ("move", (0, 3), (0, 1), 0): [((0,), "children"), ((0, 1), "children"), ((0, 3), "parent")], ("move", (0, 0), (0, 1), 1): [((0,), "children"), ((0, 0), "parent"), ((0, 1, 0), "text")],
            ("move", (0, 0), (0, 1), 0): [((0,), "children"), ((0, 0), "text"), ((0, 0), "parent"), ((0, 1), "children"), ((0, 1, 0), "parent")]}
        for edit, found in edits.items():
            self.assertEqual(touched_parts(read(document), edit), found, edit)

    def test_names_of_arguments(self):
        edit = ("rename", (1,), "q")
        self.assertEqual(write(edited(tree=TREE, edit=edit)), DOCUMENT.replace("<r", "<q").replace("</r", "</q").replace("'", '"'))
        self.assertEqual(followed(tree=TREE, edit=edit, place=()), ())
        self.assertEqual(touched_parts(tree=TREE, edit=("rename", (1,), "q")), [((1,), "name")])
        touched_parts(TREE, ("rename", (1,), "q")).append(1)
        self.assertEqual(touched_parts(TREE, ("rename", (1,), "q")), [((1,), "name")])


class Drawn(unittest.TestCase):
    def test_like_the_model(self):
        choices = random.Random(50)
        counts = {}
        for _ in range(4000):
            document = drawn_document(choices)
            tree = read(document)
            before = shown(tree)
            edit = drawn_edit(choices, tree)
            try:
                found = edited(tree, edit)
            except BadValue:
                self.assertRaises(BadValue, followed, tree, edit, ())
                self.assertRaises(BadValue, touched_parts, tree, edit)
                self.assertFalse(is_edit(tree, edit), (document, edit))
                continue
            self.assertTrue(is_edit(tree, edit), (document, edit))
            counts[edit[0]] = counts.get(edit[0], 0) + 1
            model = Model(tree)
            content = Model(read(f"<r>{edit[3]}</r>")).root.children[0].children if edit[0] == "insert" else None
            model.apply(edit, content)
            there = model.new_places()
            self.assertEqual(shown(found)[0], ((), "root", None, string_at(found, ())))
            self.assertEqual({place: (kind_at(found, place), name_at(found, place)) for place in places(found)}, {place: (node.kind, node.name) for node, place in there.items()})
            for node, place in there.items():
                if node.kind not in ("root", "element"):
                    self.assertEqual(string_at(found, place), node.text)
            self.assertEqual(shown(read(write(found))), shown(found), (document, edit))
            for place, node in model.old.items():
                self.assertEqual(followed(tree, edit, place), there.get(node), (document, edit, place))
            order = ["children", "attributes", "name", "text", "parent"]
            touched = sorted(model.touched(), key=lambda row: (places(tree).index(row[0]), order.index(row[1])))
            self.assertEqual(touched_parts(tree, edit), touched, (document, edit))
            self.assertEqual(shown(tree), before)
        self.assertGreater(min(counts.values()), 50)
        self.assertEqual(len(counts), 7)


def is_edit(tree, edit):
    """Whether a tuple with a place that is there is an edit, by the words of the document."""
    model = Model(tree)
    node = model.old[edit[1]]
    if edit[0] == "text":
        wrong = {"comment": "--" in edit[2] or edit[2][-1:] == "-", "instruction": "?>" in edit[2] or edit[2][:1] == " ", "text": False}
        return not wrong.get(node.kind, True)
    if edit[0] == "set":
        return node.kind == "element"
    if edit[0] == "unset":
        return edit[2] in [attribute.name for attribute in node.attributes]
    if edit[0] == "rename":
        return node.kind == "element" or node.kind == "instruction" and edit[2] != "xml"
    if edit[0] == "insert":
        if node.kind not in ("root", "element") or edit[2] > len(node.children):
            return False
        content = Model(read(f"<r>{edit[3]}</r>")).root.children[0].children
        return node.kind == "element" or all(one.kind in ("comment", "instruction") for one in content)
    if node.kind in ("root", "attribute"):
        return False
    if edit[0] == "delete":
        return not (node.kind == "element" and node.parent.kind == "root")
    goal = model.old[edit[2]]
    if goal.kind not in ("root", "element") or edit[3] > len(goal.children) or edit[2][:len(edit[1])] == edit[1]:
        return False
    if node.parent.kind == "root":
        return goal is node.parent or node.kind != "element"
    return goal.kind != "root" or node.kind in ("comment", "instruction")


class Errors(unittest.TestCase):
    def wrong(self, *edits):
        for edit in edits:
            self.assertRaises(BadValue, edited, TREE, edit)
            self.assertRaises(BadValue, followed, TREE, edit, ())
            self.assertRaises(BadValue, touched_parts, TREE, edit)

    def test_no_tuples(self):
        self.wrong(*STRANGE, *[(thing,) for thing in STRANGE], (), "delete", ["delete", (1, 0)], ("delete",), ("delete", (1, 0), 1), ("text", (1, 0)), ("text", (1, 0), "a", "b"), ("set", (1,), "a"),
                   ("unset", (1,)), ("unset", (1,), "a", "b"), ("rename", (1,)), ("insert", (1,), 0), ("move", (1, 0), (1,)), ("move", (1, 0), (1,), 0, 0), ("", (1,)), ("Delete", (1, 0)), ("copy", (1, 0), (1,), 0))

    def test_things_of_any_kind(self):
        for thing in STRANGE:
            self.wrong(("text", thing, "a"), ("set", thing, "a", ""), ("unset", thing, "a"), ("rename", thing, "a"), ("insert", thing, 0, "a"), ("delete", thing), ("move", thing, (1,), 0))
            self.wrong(("text", (1, 0), thing), ("set", (1,), thing, ""), ("set", (1,), "a", thing), ("unset", (1,), thing), ("rename", (1,), thing), ("insert", (1,), thing, "a"),
                       ("insert", (1,), 0, thing), ("move", (1, 0), thing, 0), ("move", (1, 0), (1,), thing))

    def test_places_and_indexes(self):
        for place in ((7,), (1, 9), (1, 0, 0), (1, "@q"), ("@a",), (True,), (1, False), (1.0,), [1, 0]):
            self.wrong(("text", place, "a"), ("delete", place), ("rename", place, "a"), ("move", place, (1,), 0), ("move", (1, 0), place, 0), ("insert", place, 0, "a"))
        for index in (-1, 7, True, 0.0, "0", None):
            self.wrong(("insert", (1,), index, "a"), ("move", (1, 0), (1,), index))
        self.wrong(("insert", (1, 0), 0, "a"), ("insert", (1, 3), 0, "a"), ("insert", (1, "@a"), 0, "a"), ("move", (1, 0), (1, 2), 0), ("move", (1, 0), (1, "@a"), 0))

    def test_kinds(self):
        self.wrong(("text", (), "a"), ("text", (1,), "a"), ("text", (1, "@a"), "a"), ("set", (), "a", ""), ("set", (1, 0), "a", ""), ("set", (1, "@a"), "a", ""), ("unset", (1, 0), "a"),
                   ("unset", (1,), "c"), ("unset", (1, 1), "a"), ("rename", (), "a"), ("rename", (1, 0), "a"), ("rename", (0,), "a"), ("rename", (1, "@a"), "q"), ("delete", ()),
                   ("delete", (1, "@a")), ("move", (), (1,), 0), ("move", (1, "@a"), (1,), 0), ("move", (1,), (1, 1), 0), ("move", (1, 1), (1, 1), 0), ("move", (1,), (1,), 0))

    def test_names_and_texts(self):
        for name in ("", "1", "a b", "a:", ":a", "a:b:c", "\u00e9", " a", "a\n"):
            self.wrong(("set", (1,), name, ""), ("rename", (1,), name), ("unset", (1,), name), ("rename", (2,), name))
        self.wrong(("rename", (2,), "xml"), ("rename", (2,), "XmL"), ("rename", (1, 4), "XML"))
        for text in ("\r", "\u00e9", "a\x00", "\x7f"):
            self.wrong(("text", (1, 0), text), ("set", (1,), "a", text), ("text", (0,), text), ("text", (2,), text), ("insert", (1,), 0, text))
        self.wrong(("text", (0,), "--"), ("text", (0,), "-"), ("text", (0,), "a-"), ("text", (0,), "a--b"), ("text", (2,), "?>"), ("text", (2,), "a?>b"), ("text", (2,), " a"), ("text", (2,), "\na"),
                   ("text", (2,), "\t"), ("text", (1, 3), "x-"))

    def test_contents(self):
        for content in ("<", "&", "<a>", "</a>", "</r><r>", "]]>", "&#37;", "<a></b>", "<!--", "<?xml?>", "<!-- -- -->", "<a b='' b=''/>", "</r>", "</r><!--", "<a", "&lt", "<![CDATA[", "<?p", "</r><r/><r>"):
            self.wrong(("insert", (1,), 0, content))

    def test_what_must_come_out(self):
        self.wrong(("delete", (1,)), ("insert", (), 0, "x"), ("insert", (), 1, " "), ("insert", (), 0, "<a/>"), ("insert", (), 3, "<!--c--><a/>"), ("move", (1, 1), (), 0), ("move", (1, 0), (), 3))

    def test_order(self):
        for thing in STRANGE + [1, "<a/>"]:
            self.assertRaises(BadValue, edited, thing, ("delete", (1, 0)))
            self.assertRaises(BadValue, followed, thing, ("delete", (1, 0)), ())
            self.assertRaises(BadValue, touched_parts, thing, ("delete", (1, 0)))
            if thing != ():
                self.assertRaises(BadValue, followed, TREE, ("delete", (1, 0)), thing)
        for place in ((9,), (1, "@q"), [1], (True,)):
            self.assertRaises(BadValue, followed, TREE, ("delete", (1, 0)), place)


if __name__ == "__main__":
    unittest.main()
