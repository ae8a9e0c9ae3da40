"""[11.5]: whether edits turn what a stylesheet makes."""

import random
import unittest

from pathloom.documents import read
from pathloom.edits import edited
from pathloom.errors import BadValue, Failed
from pathloom.idling import turns
from pathloom.running import transform
from pathloom.sheets import Sheet
from pathloom.writing import write
from tests.edit_model import drawn_document, drawn_edit
from tests.made_results import apply, rule, value
from tests.sheet_shown import sheet
from tests.shown import STRANGE

SHEETS = [
    "", rule("@*|node()", '<xsl:copy><xsl:apply-templates select="@*|node()"/></xsl:copy>'), '<xsl:output method="text"/>', rule("/", value("count(//*)")),
    rule("*", "<x>" + apply("*") + "</x>"), rule("a", "<xsl:message>" + value("@k") + "</xsl:message>" + apply()) + rule("text()", ""), rule("b", value("count(1)")),
    '<xsl:strip-space elements="*"/>' + rule("/", '<xsl:copy-of select="."/>'), rule("a", apply("*", "", '<xsl:sort select="@k"/>')) + rule("*", value("name()")),
    '<xsl:key name="k" match="*" use="@k"/>' + rule("/", value("count(key('k', '1'))")), rule("b", '<xsl:message terminate="yes">x</xsl:message>') + rule("c", value("1 | 1")),
]


def outcome(one, tree, *more):
    try:
        result = transform(one, tree, *more)
        return (result.text, result.messages)
    except Failed as error:
        return error.fault


class Turns(unittest.TestCase):
    def turned(self, inner, document, edit, params=None, documents=None):
        return turns(Sheet(sheet(inner)), read(document), edit, params, documents)

    def test_by_the_text(self):
        inner = rule("/", value("count(r/a)"))
        told = {("delete", (0, 0)): True, ("delete", (0, 1)): False, ("rename", (0, 0), "b"): True, ("rename", (0, 1), "c"): False, ("rename", (0, 1), "a"): True,
                ("insert", (0,), 0, "<b/>"): False, ("insert", (0,), 2, "<a/>"): True, ("set", (0, 0), "k", "1"): False, ("move", (0, 0), (0,), 2): False, ("move", (0, 0), (0, 1), 0): True,
                ("insert", (0,), 0, ""): False}
        for edit, found in told.items():
            self.assertIs(self.turned(inner, "<r><a/><b/></r>", edit), found, edit)

    def test_by_messages(self):
        inner = rule("/", "<xsl:message>" + value("r") + "</xsl:message>")
        self.assertIs(self.turned(inner, "<r>a</r>", ("text", (0, 0), "b")), True)
        self.assertIs(self.turned(inner, "<r>a</r>", ("rename", (0,), "q")), True)
        self.assertIs(self.turned(inner, "<r>a</r>", ("set", (0,), "b", "")), False)
        self.assertIs(self.turned(rule("a", "<xsl:message/>"), "<r><a/></r>", ("insert", (0,), 0, "<a/>")), True)

    def test_by_failures(self):
        inner = rule("a", value("count(1)")) + rule("b", '<xsl:message terminate="yes"/>') + rule("c", value("1 | 1"))
        for one, other, found in (("a", "b", True), ("a", "c", False), ("a", "d", True), ("d", "a", True), ("d", "e", False), ("b", "b", False)):
            self.assertIs(self.turned(inner, f"<r><{one}/></r>", ("rename", (0, 0), other)), found, (one, other))

    def test_with_params_and_documents(self):
        inner = '<xsl:param name="p" select="0"/>' + rule("/", value("count(r/*[@k = $p])") + value("document(r/@d)"))
        documents = {"x": read("<x>1</x>"), "y": read("<y>1</y>"), "z": read("<z>2</z>")}
        document = "<r d='x'><a k='1'/></r>"
        for edit, params, found in ((("set", (0, 0), "k", "2"), {"p": "1"}, True), (("set", (0, 0), "k", "2"), {"p": "3"}, False), (("set", (0,), "d", "y"), None, False),
                                    (("set", (0,), "d", "z"), None, True), (("set", (0,), "d", "q"), None, True)):
            self.assertIs(self.turned(inner, document, edit, params, documents), found, edit)
        self.assertIs(turns(sheet=Sheet(sheet(inner)), tree=read(document), edit=("delete", (0, 0)), params={"p": "1"}, documents=documents), True)

    def test_origins_do_not_count(self):
        self.assertIs(self.turned("", "<r>a<b/></r>", ("move", (0, 1), (0,), 0)), False)

    def test_like_transform(self):
        choices = random.Random(70)
        counts = {True: 0, False: 0}
        for _ in range(1500):
            one = Sheet(sheet(choices.choice(SHEETS)))
            tree = read(drawn_document(choices))
            before = write(tree)
            edit = drawn_edit(choices, tree)
            try:
                behind = edited(tree, edit)
            except BadValue:
                self.assertRaises(BadValue, turns, one, tree, edit)
                continue
            found = turns(one, tree, edit)
            counts[found] += 1
            self.assertIs(found, outcome(one, tree) != outcome(one, behind))
            self.assertEqual(write(tree), before)
        self.assertGreater(min(counts.values()), 90)


class Errors(unittest.TestCase):
    def test_wrong_arguments(self):
        one, tree, edit = Sheet(sheet("")), read("<r>x</r>"), ("text", (0, 0), "y")
        for thing in STRANGE + [1, (), "x"]:
            self.assertRaises(BadValue, turns, thing, tree, edit)
            self.assertRaises(BadValue, turns, one, thing, edit)
            self.assertRaises(BadValue, turns, one, tree, thing)
            if thing is not None and thing != {} and not isinstance(thing, dict):
                self.assertRaises(BadValue, turns, one, tree, edit, thing)
                self.assertRaises(BadValue, turns, one, tree, edit, None, thing)
        self.assertRaises(BadValue, turns, one, tree, edit, {"a": 1})
        self.assertRaises(BadValue, turns, one, tree, edit, None, {"a": "<a/>"})
        self.assertRaises(BadValue, turns, one, tree, ("delete", (0,)))
        self.assertIs(turns(one, tree, edit, {}, {}), True)


if __name__ == "__main__":
    unittest.main()
