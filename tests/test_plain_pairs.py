"""[10.3], [10.4], [10.5]: stylesheets that are alike, and sources of results, held against what stylesheets make."""

import unittest

from pathloom.errors import BadValue, NotDocument, NotPlain, NotSheet, TooLarge
from pathloom.plain import parting, source_for, unplain_at
from tests.plain_results import Maker, Plain, changed, content, documents, shuffled, source, written
from tests.shown import STRANGE

FRONT = '<xsl:stylesheet version="1.0">'
BACK = "</xsl:stylesheet>"


def sheet(*rows):
    """A stylesheet of templates (match, body) or (match, mode, body)."""
    inner = ""
    for match, *mode, body in rows:
        told = f' mode="{mode[0]}"' if mode else ""
        inner += f'<xsl:template match="{match}"{told}>{body}</xsl:template>'
    return FRONT + inner + BACK


def apply(select="*", mode=None):
    return f'<xsl:apply-templates select="{select}"' + (f' mode="{mode}"/>' if mode else "/>")


def given(name, body):
    return f'<xsl:if test="{name}">{body}</xsl:if>'


ONE = sheet(("*", f"<x>{apply()}</x>"))


class Parting(unittest.TestCase):
    def check(self, one, other, alike):
        for pair in ((one, other), (other, one)):
            found = parting(*pair)
            if alike:
                self.assertIsNone(found, pair)
            else:
                self.assertNotEqual(Plain(one).result(source(found)), Plain(other).result(source(found)), pair)

    def test_alike(self):
        named = sheet(("*", f"<x>{apply('*', 'm')}</x>"), ("*", "m", f"<x>{apply('*', 'm')}</x>"))
        told = [
            (ONE, ONE), (ONE, named), (ONE, sheet(("a", f"<x>{apply()}</x>"), ("*", f"<x>{apply()}</x>"))),
            (ONE, sheet(("/", apply()), ("*", f"<x>{apply()}</x>"))),
            # A mode that makes nothing selects nothing.
            (sheet(("*", f"<x>{apply('a')}</x>")), sheet(("*", f"<x>{apply('*', 'm')}</x>"), ("*", "m", ""),
                                                          ("a", "m", f"<x>{apply('a')}</x>"))),
            (sheet(("*", f"<x>{given('a', 'u') + given('not(a)', 'u')}</x>")), sheet(("*", "<x>u</x>"))),
            (sheet(("*", "<x>ab</x>")), sheet(("*", "<x>a<xsl:text>b</xsl:text><xsl:text/></x>"))),
            (sheet(("*", "<x>a b</x>")), sheet(("*", "<x>\n<!--c-->a<!--c--> b</x>".replace("\n<!--c-->a", "a")))),
            # The document has one outermost element.
            (sheet(("/", "<x/>"), ("*", "")), sheet(("*", "<x/>"))),
            (sheet(("/", f"<x>{apply()}</x>"), ("*", "<y/>")), sheet(("*", "<x><y/></x>"))),
            (sheet(("/", f"<x>{apply('a')}{''}</x>"), ("*", "<y/>")), sheet(("a", "<x><y/></x>"), ("*", "<x/>"))),
            (sheet(("/", given("a", "<y/>") + given("b", "<z/>")), ("*", "")), sheet(("a", "<y/>"), ("b", "<z/>"), ("*", ""))),
            (sheet(("/", given("a", given("b", "<y/>"))), ("*", "")), sheet(("*", ""))),
            # What is never reached makes no difference.
            (ONE, sheet(("*", f"<x>{apply()}</x>"), ("*", "m", "<z/>"))),
            (sheet(("/", apply("a")), ("*", "<z/>"), ("a", "<x/>")), sheet(("/", apply("a")), ("*", "<y/>"), ("a", "<x/>"))),
            (sheet(("*", f"<x>{given('not(a)', apply('a'))}</x>")), sheet(("*", "<x/>"))),
            (sheet(("*", f"<x>{given('a', apply('a|b'))}{given('not(a)', apply('b|a'))}</x>")), sheet(("*", f"<x>{apply(' b | a ')}</x>"))),
        ]
        for one, other in told:
            self.check(one, other, True)
            self.check(one, one, True)

    def test_not_alike(self):
        told = [
            (ONE, sheet(("*", f"<y>{apply()}</y>"))), (ONE, sheet(("*", f"<x>{apply('a')}</x>"))), (ONE, sheet(("*", ""))),
            (ONE, sheet(("*", f"<x>{apply()}</x><x/>"))), (ONE, sheet(("*", f"<x>t{apply()}</x>"))),
            (ONE, sheet(("*", f"<x k='1'>{apply()}</x>"))), (ONE, sheet(("*", f"<x>{given('a', '<y/>')}{apply()}</x>"))),
            (sheet(("*", "<x k='1' l='2'/>")), sheet(("*", "<x l='2' k='1'/>"))), (sheet(("*", "<x>a b</x>")), sheet(("*", "<x>ab</x>"))),
            (sheet(("*", f"<x>{apply()}</x>"), ("a", "<x/>")), sheet(("*", f"<x>{apply()}</x>"), ("b", "<x/>"))),
            (sheet(("/", "t"), ("*", "")), sheet(("*", ""))), (sheet(("*", "<x/>")), sheet(("*", "<x> </x>".replace(" ", "<xsl:text> </xsl:text>")))),
            # Differences that cancel one another for one child of each name.
            (sheet(("*", f"<x>{apply('*', 'm')}</x>"), ("*", "m", ""), ("a", "m", "<y/>")),
             sheet(("*", f"<x>{apply('*', 'm')}</x>"), ("*", "m", ""), ("b", "m", "<y/>"))),
            (sheet(("*", f"<x>{given('a', given('b', apply('a')))}</x>")), sheet(("*", f"<x>{given('a', given('b', apply('b')))}</x>"))),
            (sheet(("*", f"<x>{given('a', '<y/>')}</x>")), sheet(("*", f"<x>{apply('a', 'm')}</x>"), ("*", "m", "<y/>"))),
            (sheet(("*", f"<x><y/>{apply('*', 'm')}</x>"), ("*", "m", "<y/>")), sheet(("*", f"<x>{apply('*', 'm')}</x>"), ("*", "m", "<y/><y/>"))),
        ]
        for one, other in told:
            self.check(one, other, False)

    def test_a_difference_far_below(self):
        for levels in (1, 5, 40):
            rows = [("*", f"<x>{apply('*', 'm0')}</x>")]
            rows += [("*", f"m{at}", f"<x>{apply('a', f'm{at + 1}')}</x><z>{apply('*', f'm{at + 1}')}</z>") for at in range(levels)]
            pair = [sheet(*rows, ("*", f"m{levels}", f"<x>{given('b', inner)}</x>")) for inner in ("<y/>", "")]
            self.check(pair[0], pair[0], True)
            found = parting(*pair)
            self.assertLess(found.count("<"), 8 * levels + 20)
            if levels < 10:
                self.assertNotEqual(*[Plain(one).result(source(found)) for one in pair])

    def test_many(self):
        choices = shuffled(22)
        small = list(documents("abe", 4))
        alike = 0
        for _ in range(300):
            maker = Maker(choices, tests=choices.choice(["ab", "a", ""]), modes=choices.choice([(), ("m",), ("m", "n")]))
            one = maker.sheet()
            other = one
            for _ in range(choices.choice([0, 1, 1, 2])):
                other = changed(other, choices)
            if unplain_at(one) is not None or unplain_at(other) is not None:
                continue
            found = parting(one, other)
            pair = Plain(one), Plain(other)
            if found is not None:
                self.assertNotEqual(pair[0].result(source(found)), pair[1].result(source(found)), (one, other))
            else:
                alike += 1
                for document in small:
                    self.assertEqual(pair[0].result(document), pair[1].result(document), (one, other))
            self.assertEqual(parting(other, one) is None, found is None)
            self.assertIsNone(parting(one, one))
        self.assertGreater(alike, 100)

    def test_too_many_names(self):
        four = sheet(("*", "<x>" + "".join(given(name, "<y/>") for name in "abcd") + "</x>"))
        three = sheet(("*", "<x>" + "".join(given(f"not({name})", "<y/>") for name in "bcd") + "</x>"))
        fifth = sheet(("*", f"<x>{given('e', '<y/>')}</x>"))
        self.assertIsNone(parting(four, four))
        self.assertIsNotNone(parting(four, three))
        for pair in ((four, fifth), (fifth, four)):
            with self.assertRaises(TooLarge) as caught:
                parting(*pair)
            self.assertEqual(caught.exception.most, 4)

    def test_too_many_pairs(self):
        def ring(size):
            modes = [("*", f"m{at}", f"<x>{apply('*', f'm{(at + 1) % size}')}</x>") for at in range(size)]
            return sheet(("*", f"<x>{apply('*', 'm0')}</x>"), *modes)
        self.assertIsNone(parting(ring(67), ring(71)))
        self.assertIsNone(parting(ring(60), ring(80)))
        with self.assertRaises(TooLarge) as caught:
            parting(ring(71), ring(73))
        self.assertEqual(caught.exception.most, 5000)

    def test_facts(self):
        choices = shuffled(23)
        for _ in range(150):
            one = Maker(choices).sheet()
            if unplain_at(one) is not None:
                continue
            self.assertIsNone(parting(one, one.replace('mode="m"', 'mode="other"')))
            rows = one.removeprefix(FRONT).removesuffix(BACK).split("</xsl:template>")[:-1]
            self.assertIsNone(parting(one, FRONT + "".join(row + "</xsl:template>" for row in rows[::-1]) + BACK))
            self.assertIsNone(parting(one, one.replace(BACK, '<xsl:template match="a" mode="never"/>' + BACK)))

    def test_large(self):
        names = [f"n{at}" for at in range(40)]
        rows = [(name, f"<x{at}>{apply('|'.join(names[at:]))}</x{at}>") for at, name in enumerate(names)]
        one = sheet(*rows, ("*", "<z/>"))
        self.assertIsNone(parting(one, sheet(*rows[::-1], ("*", "<z/>"))))
        self.check(one, sheet(*rows[1:], ("*", "<z/>")), False)
        modes = [("*", f"m{at}", f"<x>{apply('*', f'm{(at + 1) % 30}')}</x>") for at in range(30)]
        self.assertIsNone(parting(sheet(("*", f"<x>{apply('*', 'm0')}</x>"), *modes), ONE))


class Sources(unittest.TestCase):
    def check(self, main, result, made=True):
        found = source_for(main, result)
        if made:
            self.assertIsNotNone(found, (main, result))
            self.assertEqual(Plain(main).result(source(found)), content(result), (main, result))
        else:
            self.assertIsNone(found, (main, result))

    def test_told(self):
        other = sheet(("*", f"<x>{given('a', '<y/>')}{apply()}</x>"))
        told = [
            (ONE, "<x><x/></x>", True), (ONE, "<x><y/></x>", False), (ONE, "<x/>", True), (ONE, "<y/>", False), (ONE, "<x>t</x>", False),
            (ONE, "<x k='1'/>", False), (ONE, "<x><x/><x><x/><x/></x></x>", True), (other, "<x><y/><x/></x>", True),
            (other, "<x><y/></x>", False), (other, "<x><x/></x>", True), (other, "<x><x/><y/></x>", False),
            (ONE, "<x><!--c--></x>", False), (ONE, "<!--c--><x/>", False), (ONE, "<x/><?p?>", False), (ONE, "<x><?p?></x>", False),
            (ONE, "<?xml version='1.0'?>\n<x></x>\n", True), (sheet(("*", "<x>a<y/>b</x>")), "<x>a<y/>b</x>", True),
            (sheet(("*", "<x>ab</x>")), "<x>a<![CDATA[b]]></x>", True), (sheet(("*", "<x>ab</x>")), "<x>abc</x>", False),
            (sheet(("*", "<x k='1' l='2'/>")), "<x k='1' l='2'/>", True), (sheet(("*", "<x k='1' l='2'/>")), "<x l='2' k='1'/>", False),
            (sheet(("*", "<x k='1'/>")), "<x k='2'/>", False), (sheet(("/", "t"), ("*", "")), "<x/>", False),
            (sheet(("*", "<x/><x/>")), "<x/>", False), (sheet(("*", "")), "<x/>", False), (sheet(("/", f"<x>t{apply()}</x>"), ("*", "<y/>")), "<x>t<y/></x>", True),
            (sheet(("/", f"<x>t{apply()}</x>"), ("*", "<y/>")), "<x>t<y/><y/></x>", False),
            (sheet(("/", f"<x>{apply('a')}</x>"), ("*", "<y/>")), "<x/>", True),
            (sheet(("/", f"<x>{given('a', 'u')}</x>"), ("*", "")), "<x>u</x>", True), (sheet(("/", f"<x>{given('a', 'u')}{given('b', 'v')}</x>"), ("*", "")), "<x>uv</x>", False),
        ]
        for main, result, made in told:
            self.check(main, result, made)

    def test_parts_that_come_of_the_same_children(self):
        twice = sheet(("*", f"<x><l>{apply()}</l><r>{apply()}</r></x>"), ("a", "<a/>"), ("b", "<b/><b/>"))
        self.check(twice, "<x><l><a/><b/><b/></l><r><a/><b/><b/></r></x>")
        self.check(twice, "<x><l><a/></l><r><b/><b/></r></x>", False)
        self.check(twice, "<x><l><b/></l><r><b/></r></x>", False)
        modes = sheet(("*", f"<x><l>{apply()}</l><r>{apply('*', 'm')}</r></x>"), ("a", "<a/>"), ("b", ""), ("*", "m", ""), ("b", "m", "<b/>"),
                      ("c", "<c/>"), ("c", "m", "<c/>"))
        self.check(modes, "<x><l><a/><a/></l><r><b/></r></x>")
        self.check(modes, "<x><l><c/><a/></l><r><b/><c/><b/></r></x>")
        self.check(modes, "<x><l><c/></l><r><b/></r></x>", False)
        self.check(modes, "<x><l><c/><a/></l><r/></x>", False)

    def test_tested_names_among_the_children(self):
        main = sheet(("*", f"<x>{given('a', 'A')}{given('not(b)', 'B')}{apply('c')}</x>"))
        for result, made in (("<x>A</x>", True), ("<x>AB</x>", True), ("<x/>", True), ("<x>B</x>", True), ("<x>A<x>B</x></x>", True),
                             ("<x>BA</x>", False), ("<x>AB<x/><x>A</x></x>", True)):
            self.check(main, result, made)
        hidden = sheet(("*", f"<x>{given('a', 'A')}{apply()}</x>"), ("a", given("not(b)", "<y/>")))
        self.check(hidden, "<x>A<x/></x>")
        self.check(hidden, "<x>A<y/></x>")
        self.check(hidden, "<x>A</x>")
        self.check(hidden, "<x><y/></x>", False)

    def test_many(self):
        choices = shuffled(24)
        small = list(documents("abe", 4))
        made = none = 0
        for _ in range(250):
            maker = Maker(choices, tests=choices.choice(["ab", "a", ""]), modes=choices.choice([(), ("m",)]))
            main = maker.sheet()
            if unplain_at(main) is not None:
                continue
            plain = Plain(main)
            results = {}
            for document in small:
                result = plain.result(document)
                if len(result) == 1 and not isinstance(result[0], str):
                    results[result] = document
            told = sorted(results, key=repr)
            for result in choices.sample(told, min(len(told), 5)):
                self.check(main, written(result[0]))
                other = changed(written(result[0]), choices)
                try:
                    found = source_for(main, other)
                except NotDocument:
                    continue
                if found is None:
                    none += 1
                    self.assertNotIn(content(other), results, (main, other))
                else:
                    made += 1
                    self.assertEqual(plain.result(source(found)), content(other), (main, other))
        self.assertGreater(made, 100)
        self.assertGreater(none, 100)

    def test_large(self):
        self.check(ONE, "<x>" + "<x/>" * 2000 + "</x>")
        self.check(ONE, "<x>" + "<x/>" * 2000 + "<y/></x>", False)
        found = source_for(ONE, "<x>" * 200 + "</x>" * 200)
        self.assertEqual(found.count("<e0"), 200)
        two = sheet(("*", f"<x><l>{apply()}</l><r>{apply('*', 'm')}</r></x>"), ("*", "m", "<y/>"), ("a", "<a/>"), ("a", "m", ""))
        self.check(two, "<x><l>" + "<a/>" * 30 + "</l><r/></x>")
        self.check(two, "<x><l>" + "<a/>" * 30 + "</l><r><y/></r></x>", False)

    def test_too_many_sets(self):
        rows = [("*", f"<x><l>{apply()}</l><r>{apply('*', 'm')}</r></x>"), ("*", "m", "<y/>"), ("a", "<a/>"), ("a", "m", ""),
                ("b", ""), ("b", "m", "<b/>")]
        many = "<x><l>" + "<a/>" * 400 + "</l><r>" + "<b/>" * 400 + "{}</r></x>"
        self.check(sheet(*rows), many.format(""))
        with self.assertRaises(TooLarge) as caught:
            source_for(sheet(*rows), many.format("<z/>"))
        self.assertEqual(caught.exception.most, 20000)
        self.check(sheet(*rows), "<x><l>" + "<a/>" * 60 + "</l><r>" + "<b/>" * 60 + "<z/></r></x>", False)


class Errors(unittest.TestCase):
    UNPLAIN = sheet(("*", "<x/>")).replace(BACK, "<xsl:output/>" + BACK)

    def test_wrong_arguments(self):
        for thing in STRANGE:
            self.assertRaises(BadValue, unplain_at, thing)
            self.assertRaises(BadValue, parting, thing, ONE)
            self.assertRaises(BadValue, parting, ONE, thing)
            self.assertRaises(BadValue, source_for, thing, "<x/>")
            self.assertRaises(BadValue, source_for, ONE, thing)

    def raised(self, function, *arguments):
        try:
            function(*arguments)
        except NotSheet as error:
            return (error.place, error.fault)
        except NotPlain as error:
            return error.place
        except NotDocument as error:
            return error.at
        except BadValue:
            return "BadValue"

    def test_the_earliest_is_raised(self):
        broken = sheet(("*", "<b c='{'/>"))
        told = [
            (parting, 1, "<"), (parting, broken, 1), (parting, self.UNPLAIN, 1), (parting, self.UNPLAIN, broken),
            (parting, ONE, 1), (parting, ONE, broken), (parting, ONE, self.UNPLAIN), (source_for, 1, 1), (source_for, broken, 1),
            (source_for, self.UNPLAIN, 1), (source_for, ONE, 1), (source_for, ONE, "<x>"), (source_for, self.UNPLAIN, "<x>"),
            (source_for, ONE, "<x/>\u00e9"), (unplain_at, "<a>"), (unplain_at, broken),
            (unplain_at, sheet().replace(BACK, '<xsl:import href="q"/>' + BACK)),
        ]
        errors = ["BadValue", (("", (0, 0, 0)), "path"), (0, 1), (0, 1), "BadValue", (("", (0, 0, 0)), "path"), (0, 1), "BadValue",
                  (("", (0, 0, 0)), "path"), (0, 1), "BadValue", 3, (0, 1), 4, (("", ()), "document"), (("", (0, 0, 0)), "path"),
                  (("", (0, 0)), "href")]
        for (function, *arguments), error in zip(told, errors):
            self.assertEqual(self.raised(function, *arguments), error, arguments)

    def test_names_of_arguments(self):
        self.assertIsNone(unplain_at(main=ONE))
        self.assertIsNone(parting(one=ONE, other=ONE))
        self.assertIsNone(source_for(main=ONE, result="<y/>"))


if __name__ == "__main__":
    unittest.main()
