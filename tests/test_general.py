"""[0.2]: questions asked again, what is returned and then changed, and arguments that stay as they were."""

import copy
import inspect
import unittest

from pathloom import documents, edits, every, idling, matching, paths, places, plain, readings, running, selecting, sheets, writing
from pathloom.documents import read
from pathloom.errors import BadValue
from pathloom.sheets import Sheet
from pathloom.writing import write
from tests.made_results import rule, value
from tests.sheet_shown import sheet
from tests.shown import STRANGE

DOCUMENT = "<r id='1'> <a k='1'>x<b/></a><a k='2'/><!--c--> </r>"
MAIN = sheet('<xsl:strip-space elements="*"/><xsl:param name="p"/><xsl:key name="k" match="*" use="@k"/>' + rule(
    "/", "<x><xsl:message>m</xsl:message>" + value("concat($p, key('k', '2')/@k, document('d'))") + '<xsl:copy-of select="//a"/></x>'))
PLAIN = sheet(rule("*", '<x><xsl:apply-templates select="*"/></x>'))
SIGNATURES = {
    documents: ["read(text)"], writing: ["write(tree)"],
    places: ["places(tree)", "kind_at(tree, place)", "name_at(tree, place)", "string_at(tree, place)"],
    paths: ["tokens(text)", "tree_of(text)", "canonical(text)", "abbreviated(text)"], selecting: ["select(text, tree, place=(), variables=None)"],
    matching: ["pattern_text(text)", "alternatives_of(text)", "fitting(text, tree, key_rows=())", "key_nodes(tree, key_rows, key_name, word)"],
    plain: ["unplain_at(main)", "parting(one, other)", "source_for(main, result)"], sheets: ["Sheet(main, others=None)"],
    running: ["transform(sheet, tree, params=None, documents=None)"],
    every: ["contained(one, other)", "equivalent(one, other)", "is_counterexample(thing, one, other)", "counterexample(one, other)", "example(one)"],
    edits: ["edited(tree, edit)", "followed(tree, edit, place)", "touched_parts(tree, edit)"],
    readings: ["read_parts(text, tree, place=(), variables=None)"], idling: ["turns(sheet, tree, edit, params=None, documents=None)"],
}


class Questions:
    """All questions, over one tree, one stylesheet and other arguments that they share."""

    def __init__(self):
        self.tree, self.sheet = read(DOCUMENT), Sheet(MAIN)
        self.variables, self.params, self.documents = {"v": 1, "w": "x"}, {"p": "P"}, {"d": read("<d>D</d>")}
        self.rows = [("k", "a", "@k")]
        self.edit = ("delete", (0, 1))
        tree, one, edit = self.tree, self.sheet, self.edit

        def outcome():
            result = running.transform(one, tree, self.params, self.documents)
            return [result.text, result.messages, result.origins]
        self.all = [
            lambda: places.places(tree), lambda: places.string_at(tree, (0,)), lambda: write(tree), lambda: paths.tokens("a[1]"), lambda: paths.tree_of("a[1]"),
            lambda: selecting.select("//a", tree), lambda: selecting.select("//a[$v]", tree, (), self.variables), lambda: selecting.select("$w", tree, (0,), self.variables),
            lambda: matching.alternatives_of("a|b"), lambda: matching.fitting("key('k', '1')", tree, self.rows), lambda: matching.key_nodes(tree, self.rows, "k", "1"),
            lambda: plain.unplain_at(PLAIN), lambda: plain.parting(PLAIN, PLAIN), lambda: plain.source_for(PLAIN, "<x/>"), lambda: one.rule_rows(), lambda: one.template_names(),
            lambda: one.global_rows(), lambda: one.set_rows(), outcome, lambda: every.contained("//a", "//*"), lambda: every.equivalent("//a", "//*"),
            lambda: every.counterexample("//*", "//a[b]"), lambda: every.example("//a[b]/@c"), lambda: every.is_counterexample(("<a/>", (0,)), "/a", "/b"),
            lambda: write(edits.edited(tree, edit)), lambda: edits.followed(tree, edit, (0, 2)), lambda: edits.touched_parts(tree, edit),
            lambda: readings.read_parts("//a[@k = $v]", tree, (), self.variables), lambda: idling.turns(one, tree, edit, self.params, self.documents),
        ]


def spoiled(found):
    """Change all lists and dicts in what was returned."""
    for part in found if isinstance(found, (list, tuple)) else []:
        spoiled(part)
    if isinstance(found, (list, dict)):
        found.clear()


class General(unittest.TestCase):
    def test_asked_again(self):
        questions = Questions()
        first = [copy.deepcopy(ask()) for ask in questions.all]
        for ask in questions.all[::-1]:
            spoiled(ask())
        for ask, found in zip(questions.all, first):
            self.assertEqual(ask(), found)
        fresh = Questions()
        self.assertEqual([ask() for ask in fresh.all[::-1]], first[::-1])

    def test_arguments_stay(self):
        questions = Questions()
        for ask in questions.all:
            ask()
        self.assertEqual((questions.variables, questions.params, questions.rows), ({"v": 1, "w": "x"}, {"p": "P"}, [("k", "a", "@k")]))
        self.assertEqual((write(questions.tree), write(questions.documents["d"])), (write(read(DOCUMENT)), "<d>D</d>"))
        self.assertEqual((list(questions.documents), questions.edit), (["d"], ("delete", (0, 1))))

    def test_dicts_in_another_order(self):
        one, tree = Sheet(sheet('<xsl:param name="p"/><xsl:param name="q"/>' + rule("/", value("concat($p, $q, generate-id(document('e')))")))), read("<r/>")
        trees = {"d": read("<d/>"), "e": read("<e/>")}
        turned = {name: trees[name] for name in ("e", "d")}
        results = [running.transform(one, tree, params, given).text for params, given in (({"p": "1", "q": "2"}, trees), ({"q": "2", "p": "1"}, turned))]
        self.assertEqual(results[0], results[1])
        self.assertTrue(results[0].endswith("12n2d0"))

    def test_signatures(self):
        for module, told in SIGNATURES.items():
            for text in told:
                name = text.split("(")[0]
                thing = getattr(module, name)
                self.assertEqual(thing.__module__, module.__name__)
                self.assertEqual(name + str(inspect.signature(thing)), text)
        for name in ("rule_rows", "template_names", "global_rows", "set_rows"):
            self.assertIn(name, vars(sheets.Sheet))
        self.assertEqual(running.Result.__module__, "pathloom.running")

    def test_first_arguments_of_any_kind(self):
        tree, one = read("<r/>"), Sheet(sheet(""))
        calls = [read, write, places.places, lambda thing: places.kind_at(thing, ()), lambda thing: places.name_at(thing, 1), lambda thing: places.string_at(thing, 1), paths.tokens, paths.tree_of,
                 paths.canonical, paths.abbreviated, lambda thing: selecting.select(thing, 1, 1, 1), lambda thing: selecting.select("a", thing, 1, 1), matching.pattern_text,
                 matching.alternatives_of, lambda thing: matching.fitting(thing, 1, 1), lambda thing: matching.key_nodes(thing, 1, 1, 1), plain.unplain_at, lambda thing: plain.parting(thing, 1),
                 lambda thing: plain.source_for(thing, 1), Sheet, lambda thing: running.transform(thing, 1, 1, 1), lambda thing: running.transform(one, thing, 1, 1), every.example,
                 lambda thing: every.contained(thing, 1), lambda thing: every.equivalent(thing, 1), lambda thing: every.counterexample(thing, 1), lambda thing: every.is_counterexample(1, thing, 1),
                 lambda thing: edits.edited(thing, 1), lambda thing: edits.followed(thing, 1, 1), lambda thing: edits.touched_parts(thing, 1), lambda thing: edits.edited(tree, thing),
                 lambda thing: readings.read_parts(thing, 1, 1, 1), lambda thing: readings.read_parts("a", thing, 1, 1), lambda thing: idling.turns(thing, 1, 1, 1, 1),
                 lambda thing: idling.turns(one, thing, 1, 1, 1), lambda thing: idling.turns(one, tree, thing)]
        for call in calls:
            for thing in STRANGE:
                self.assertRaises(BadValue, call, thing)


if __name__ == "__main__":
    unittest.main()
