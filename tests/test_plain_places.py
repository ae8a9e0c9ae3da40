"""[10.1], [10.2]: plain stylesheets, and the first node by which one is not plain."""

import unittest

from pathloom.plain import unplain_at
from tests.plain_results import Maker, shuffled
from tests.test_plain_pairs import FRONT, BACK, ONE, apply, given, sheet

STAR = ("*", "<x/>")


def body(inner, match="*"):
    """A stylesheet with one template of a body, and one for all else behind it; its place in the body."""
    others = [STAR] if match != "*" else []
    return unplain_at(sheet((match, inner), *others, ("*", "m", "<x/>")))


class Plain(unittest.TestCase):
    def test_plain_ones(self):
        for main in (ONE, sheet(STAR), sheet(("/", "")), sheet(("/", "t<x/>u"), ("a", "")), sheet((" a ", ""), (" *\n", ""), ("a", "m", "")),
                     FRONT.replace("stylesheet", "transform") + '<xsl:template match="*"/>' + BACK.replace("stylesheet", "transform"),
                     FRONT.replace(">", " x='{' a:b='' xmlns:xsl='q' xsl:z=''>") + '<!--c--> <?p?><xsl:template match="*"/>' + BACK,
                     sheet(("a:b", "<a:c d:e='f' xmlns='g' xmlns:h='i' xml:lang='j'/>"), STAR), sheet(("*", "m", ""), STAR)):
            self.assertIsNone(unplain_at(main), main)

    def test_plain_bodies(self):
        for inner in ("<x/><y/>", "<x>t<xsl:text> u</xsl:text><y/></x>", "<xsl:text/>", "<xsl:text><!--c--></xsl:text>", " <x> </x> ",
                      given("a", "<x/>"), given(" a ", "<x/>"), given("not(a)", "<x/>"), given(" not ( a:b ) ", "<x/>"), given("div", ""),
                      "<xsl:choose><xsl:when test='a'><x/></xsl:when><xsl:when test='not(b)'/><xsl:otherwise><x/></xsl:otherwise></xsl:choose>",
                      f"<x>{apply()}</x>", f"<x>{apply('a')}</x><x>{apply('a|b | c:d', 'm')}</x>", f"<x>t<y/>{apply(' * ')}</x>",
                      f"<x>{given('a', apply())}{given('not(a)', apply('b'))}</x>", f"<x>{given('a', apply())}<xsl:text/></x>",
                      f"<x>{apply()}{given('a', '')}<xsl:text/> <!--c--></x>", f"<x>{apply('not')}{given('a', given('not(a)', 't<y/>'))}</x>",
                      f"<x><xsl:choose><xsl:when test='a'>{apply()}</xsl:when><xsl:otherwise>t{apply()}</xsl:otherwise></xsl:choose></x>",
                      given("a", given("not(a)", "t")), "".join(given(name, "<x/>") for name in "abcdabcd"), "<x a='}}'/>".replace("}}", ""),
                      "<xsl:apply-templates select='*'><!--c--> </xsl:apply-templates>".join(["<x>", "</x>"])):
            self.assertIsNone(body(inner), inner)
        for inner in ("t", "t<x/>", apply(), f"t<x/>{apply('a', 'm')}", f"{given('a', apply())}{given('not(a)', 't')}", "<xsl:text>t</xsl:text>"):
            self.assertIsNone(body(inner, "/"), inner)

    def test_made_ones(self):
        choices = shuffled(25)
        found = [unplain_at(Maker(choices).sheet()) for _ in range(300)]
        self.assertGreater(found.count(None), 100)


class Roots(unittest.TestCase):
    def test_roots(self):
        self.assertEqual(unplain_at("<a xsl:version='1.0'/>"), (0,))
        self.assertEqual(unplain_at("<!--c--><a xsl:version='1.0'><xsl:copy/></a>"), (1,))
        for space in ("preserve", "default"):
            self.assertEqual(unplain_at(ONE.replace(' version', f' xml:space="{space}" version')), (0,))
        self.assertEqual(unplain_at(sheet()), (0,))
        self.assertEqual(unplain_at(sheet(("a", ""))), (0,))
        self.assertEqual(unplain_at(sheet(("*", "m", ""))), (0,))
        self.assertEqual(unplain_at(sheet(("a", "<xsl:copy/>"))), (0,))
        self.assertIsNone(unplain_at(sheet(("a", ""), ("/", ""))))

    def test_top_level(self):
        for inner in ("<xsl:output/>", "<xsl:strip-space elements=''/>", "<xsl:variable name='v'/>", "<xsl:key name='k' match='a' use='b'/>",
                      "<xsl:attribute-set name='s'/>", "<x:y/>", "<xsl:param name='p'/>", "<xsl:preserve-space elements='*'/>"):
            self.assertEqual(unplain_at(ONE.replace(BACK, f" <!--c-->{inner}{BACK}")), (0, 3), inner)
            self.assertEqual(unplain_at(ONE.replace(FRONT, FRONT + inner)), (0, 0), inner)

    def test_templates(self):
        for told in ('match="a" name="n"', 'name="n"', 'match="a" priority="1"', 'match="a" x:y="z"', 'match="a" xml:space="default"',
                     'match="a|b"', 'match="child::a"', 'match="a/b"', 'match="/a"', 'match="//a"', 'match="@a"', 'match="a[1]"',
                     'match="node()"', 'match="text()"', 'match="@*"', 'match="/" mode="m"', 'match="*|*"', "match=\"id('x')\"", 'match="*"',
                     'match="b" mode="m"', 'match=" b" mode="m"', 'match="b " mode="m"', 'match="child::*"', 'match="*[1]"', 'match="c"'):
            main = sheet(STAR, ("b", "m", ""), ("c", "")).replace(BACK, f"<xsl:template {told}/>{BACK}")
            self.assertEqual(unplain_at(main), (0, 3), told)
        self.assertEqual(unplain_at(sheet(("/", ""), (" / ", ""))), (0, 1))
        self.assertIsNone(unplain_at(sheet(STAR, ("a", ""), ("a", "m", ""), ("*", "m", ""), ("a", "n", ""))))
        self.assertEqual(unplain_at(sheet(("*", '<xsl:param name="p"/>'))), (0, 0, 0))
        self.assertEqual(unplain_at(sheet(("*", '<!--c--><xsl:param name="p"/><xsl:param name="q"/>'))), (0, 0, 1))


class Bodies(unittest.TestCase):
    def test_elements_that_must_not_stand_there(self):
        for inner in ("<xsl:value-of select='1'/>", "<xsl:for-each select='a'/>", "<xsl:copy/>", "<xsl:copy-of select='a'/>", "<xsl:variable name='v'/>",
                      "<xsl:comment/>", "<xsl:message/>", "<xsl:element name='a'/>", "<xsl:attribute name='a'/>", "<xsl:processing-instruction name='a'/>",
                      "<xsl:apply-imports/>", "<xsl:apply-templates/>", "<xsl:apply-templates select='a/b'/>", "<xsl:apply-templates select='.'/>",
                      "<xsl:apply-templates select='*|a'/>", "<xsl:apply-templates select='child::a'/>", "<xsl:apply-templates select='(a)'/>",
                      "<xsl:apply-templates select='a + b'/>", "<xsl:apply-templates select='a[1]'/>", "<xsl:apply-templates select='@a'/>",
                      "<xsl:apply-templates select='*' x:y='z'/>", "<xsl:apply-templates select='*' mode='n'/>", "<xsl:apply-templates mode='m'/>",
                      "<xsl:apply-templates select='node()'/>", "<xsl:apply-templates select='*'><xsl:sort/></xsl:apply-templates>",
                      "<xsl:apply-templates select='*'><xsl:with-param name='p'/></xsl:apply-templates>", "<xsl:text x:y='z'>t</xsl:text>",
                      "<xsl:text xml:space='preserve'/>", "<xsl:if test='a' x:y='z'/>", "<xsl:if test='a/b'/>", "<xsl:if test='@a'/>",
                      "<xsl:if test='not(not(a))'/>", "<xsl:if test='child::a'/>", "<xsl:if test='(a)'/>", "<xsl:if test='a or b'/>", "<xsl:if test='1'/>",
                      "<xsl:if test='boolean(a)'/>", "<xsl:if test='not(@a)'/>", "<xsl:if test='*'/>", "<xsl:if test='not(*)'/>", "<xsl:if test='count(a)'/>",
                      "<xsl:if test='a' xml:space='default'><x/></xsl:if>", "<xsl:choose x:y='z'><xsl:when test='a'/></xsl:choose>",
                      "<y a='{b}'/>", "<y a='{{'/>", "<y a='x}}'/>", "<y xml:space='preserve'> </y>", "<y xmlns:xsl='q'/>", "<y xsl:version='1.0'/>",
                      "<y xsl:use-attribute-sets=''/>"):
            self.assertEqual(body(f"<x>t</x><x><!--c-->{inner}</x>"), (0, 0, 1, 1), inner)
            if "apply-templates" not in inner and "<xsl:text" not in inner:
                self.assertEqual(body(inner), (0, 0, 0), inner)
        when = "<x><xsl:choose><xsl:when test='a'/><xsl:when {}/><xsl:otherwise {}/></xsl:choose></x>"
        for told, place in ((("test='1'", ""), (1,)), (("test='a' x:y=''", ""), (1,)), (("test='a'", "x:y=''"), (2,)), (("test='b'", ""), None)):
            self.assertEqual(body(when.format(*told)), place and (0, 0, 0, 0, *place))

    def test_texts_at_the_top(self):
        for inner, place in (("t", 0), ("<x/>t", 1), ("<!--c--> t<?p?>u", 1), ("<!--c--><?p?>t", 2), ("<xsl:text>t</xsl:text>", 0), ("<xsl:text> </xsl:text>", 0),
                             ("<x/>" + apply(), 1), ("<xsl:text/>" + apply(), 1)):
            self.assertEqual(body(inner), (0, 0, place), inner)
            self.assertIsNone(body(inner, "/"), inner)
            self.assertEqual(body(inner, "a"), (0, 0, place), inner)
            for test in ("a", "not(a)"):
                self.assertEqual(body(given(test, inner)), (0, 0, 0, place), inner)
                self.assertIsNone(body(given("a", given("not(a)", inner))), inner)
        chosen = "<xsl:choose><xsl:when test='a'/><xsl:when test='a'>t</xsl:when><xsl:otherwise>{}</xsl:otherwise></xsl:choose>"
        self.assertIsNone(body(chosen.format("")))
        self.assertEqual(body(chosen.format("t")), (0, 0, 0, 2, 0))

    def test_what_stands_behind_an_apply_templates(self):
        for behind in ("t", "<y/>", "<xsl:text>t</xsl:text>", apply(), apply("a", "m")):
            self.assertEqual(body(f"<x>{apply()}{behind}</x>"), (0, 0, 0, 1))
            self.assertEqual(body(f"<x>{apply()}<!--c--> <xsl:text/>{behind}<z/></x>"), (0, 0, 0, 4) if behind != "t" else (0, 0, 0, 4))
            self.assertEqual(body(f"{apply()}{behind}", "/"), (0, 0, 1))
            self.assertEqual(body(f"<x>{apply()}{given('a', behind)}</x>"), (0, 0, 0, 1, 0))
            self.assertEqual(body(f"<x>{given('a', apply())}{behind}</x>"), (0, 0, 0, 1))
            self.assertEqual(body(f"<x>{given('a', apply())}{given('b', behind)}</x>"), (0, 0, 0, 1, 0))
            self.assertIsNone(body(f"<x>{given('a', apply())}{given('not(a)', behind)}</x>"))
            self.assertIsNone(body(f"<x>{given('a', given('b', apply()))}{given('a', given('not(b)', behind))}</x>"))
            self.assertEqual(body(f"<x>{given('not(a)', apply())}<xsl:choose><xsl:when test='b'>{behind}</xsl:when><xsl:otherwise/></xsl:choose></x>"),
                             (0, 0, 0, 1, 0, 0))
            self.assertEqual(body(f"<z><x>{given('a', '<y>' + apply() + behind + '</y>')}</x></z>"), (0, 0, 0, 0, 0, 0, 1))

    def test_texts_that_comments_part(self):
        self.assertEqual(body(f"<x>{apply()}<!--c-->t<?p?>u</x>"), (0, 0, 0, 2))
        self.assertEqual(body(f"<x>{apply()}<!--c--> <?p?>u</x>"), (0, 0, 0, 2))

    def test_a_fifth_name(self):
        four = "".join(given(name, "<x/>") for name in ("a", "not(b)", "c", "d"))
        self.assertIsNone(body(four + given("not(a)", "")))
        self.assertEqual(body(four + given("e", "<x/>") + given("f", "")), (0, 0, 4))
        self.assertEqual(body(four + "<x>" + given("not(e)", "") + "</x>"), (0, 0, 4, 0))
        self.assertEqual(body(four + "<xsl:choose><xsl:when test='a'/><xsl:when test='e'/></xsl:choose>"), (0, 0, 4, 1))
        self.assertEqual(unplain_at(sheet(("a", four), ("*", given("e", "")))), (0, 1, 0))
        self.assertEqual(unplain_at(sheet(("a", four + given("e", "")), ("*", "t"))), (0, 0, 4))
        self.assertEqual(unplain_at(sheet(("a", "t" + four + given("e", "")), ("*", "t"))), (0, 0, 0))
        # What hangs on the first four alone comes first.
        self.assertEqual(body(f"<x>{given('a', apply())}{given('d', 't')}</x>" + four + given("e", "")), (0, 0, 0, 1, 0))

    def test_templates_that_are_missing(self):
        self.assertEqual(unplain_at(sheet(("*", f"<x>{apply('a', 'n')}</x>"))), (0, 0, 0, 0))
        self.assertEqual(unplain_at(sheet(("*", f"<x>{apply('a', 'n')}</x>"), ("a", "n", ""))), (0, 0, 0, 0))
        self.assertIsNone(unplain_at(sheet(("*", f"<x>{apply('a', 'n')}</x>"), ("*", "n", ""))))
        self.assertEqual(unplain_at(sheet(("/", apply()))), (0, 0, 0))
        self.assertEqual(unplain_at(sheet(("/", apply("*", "m")), ("*", "m", f"<x>{apply()}</x>"))), (0, 1, 0, 0))
        self.assertEqual(unplain_at(sheet(("/", apply("*", "m")), ("*", ""))), (0, 0, 0))
        self.assertIsNone(unplain_at(sheet(("/", apply("*", "m")), ("*", "m", f"<x>{apply('*', 'm')}</x>"))))

    def test_the_first_one_counts(self):
        self.assertEqual(unplain_at(sheet(("*", "<x a='{b}'/>"), ("*", "<xsl:copy/>"))), (0, 0, 0))
        self.assertEqual(unplain_at(sheet(("*", "<x/>"), ("*", "<xsl:copy/>"))), (0, 1))
        self.assertEqual(unplain_at(sheet(("*", f"<x>{apply()}t</x><xsl:copy/>"), ("b|c", ""))), (0, 0, 0, 1))
        self.assertEqual(unplain_at(sheet(("*", "<x><xsl:copy/></x>t"))), (0, 0, 0, 0))


if __name__ == "__main__":
    unittest.main()
