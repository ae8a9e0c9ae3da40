"""The examples of the document."""

import unittest

from pathloom.documents import read
from pathloom.edits import edited, followed, touched_parts
from pathloom.errors import NotDocument, NotPath, NotPattern
from pathloom.every import contained
from pathloom.matching import alternatives_of, fitting, key_nodes
from pathloom.paths import canonical, tokens, tree_of
from pathloom.places import places, string_at
from pathloom.plain import parting, source_for, unplain_at
from pathloom.readings import read_parts
from pathloom.running import transform
from pathloom.selecting import select
from pathloom.sheets import Sheet
from pathloom.writing import write


class Examples(unittest.TestCase):
    def test_places(self):
        tree = read("<a p='1'>x<b/>y</a>")
        self.assertEqual(places(tree), [(), (0,), (0, "@p"), (0, 0), (0, 1), (0, 2)])
        self.assertEqual([string_at(tree, place) for place in places(tree)], ["xy", "xy", "1", "x", "", "y"])

    def test_no_document(self):
        with self.assertRaises(NotDocument) as caught:
            read("<a></b>")
        self.assertEqual(caught.exception.at, 5)

    def test_references_and_cdata(self):
        tree = read("<a p='1&#10;2'>&#60;<![CDATA[>]]></a>")
        self.assertEqual(places(tree), [(), (0,), (0, "@p"), (0, 0)])
        self.assertEqual([string_at(tree, (0, "@p")), string_at(tree, (0, 0))], ["1\n2", "<>"])
        self.assertEqual(write(tree), '<a p="1&#10;2">&lt;&gt;</a>')

    def test_paths(self):
        self.assertEqual(canonical("//a[1]/@b - 2"), "/descendant-or-self::node()/child::a[1]/attribute::b - 2")
        self.assertEqual(tree_of("-$x * .5"), ("*", ("neg", ("var", "x")), ("number", "0.5")))
        self.assertEqual(tokens("a-b[. = 'c']"), [("name", "a-b", 0), ("sign", "[", 3), ("sign", ".", 4), ("sign", "=", 6),
                                                  ("text", "'c'", 8), ("sign", "]", 11)])
        with self.assertRaises(NotPath) as caught:
            tree_of("a andb")
        self.assertEqual(caught.exception.at, 5)

    def test_patterns(self):
        self.assertEqual(alternatives_of("a|@b|//c|*|processing-instruction('x')|a[1]"), [
            ("child::a", "0"), ("attribute::b", "0"), ("//child::c", "0.5"), ("child::*", "-0.5"),
            ("child::processing-instruction('x')", "0"), ("child::a[1]", "0.5")])
        tree = read('<r><a k="1"/><b k="2"/><a k="1"/></r>')
        found = [key_nodes(tree, [("of", "*", "@k")], "of", "1"), fitting("a[2]", tree),
                 fitting("key('of', '2')/@*", tree, [("of", "*", "@k")])]
        self.assertEqual(found, [[(0, 0), (0, 2)], [(0, 2)], [(0, 1, "@k")]])
        with self.assertRaises(NotPattern) as caught:
            fitting("key('of', '1')[2]", tree)
        self.assertEqual(caught.exception.at, 14)

    def test_select(self):
        tree = read("<r><a/><b/><a/><b/></r>")
        found = [select("/r/b[1]/preceding-sibling::*[1]", tree), select("//a[2]", tree), select("count(//*)", tree)]
        self.assertEqual(found, [("nodes", [(0, 0)]), ("nodes", [(0, 2)]), ("number", "5")])
        tree = read("<r><a n='1'/><a n='10'/></r>")
        found = [select("//a[@n > 2]", tree), select("sum(//@n) div 2", tree), select("$x + 1", tree, (), {"x": 4})]
        self.assertEqual(found, [("nodes", [(0, 1)]), ("number", "5.5"), ("number", "5")])
        tree = read("<r><a>1</a><a>2</a></r>")
        found = [select(text, tree) for text in ("0.1 + 0.2 = 0.3", "1 div 3 * 3", "-5 mod 2", "sum(/r/a) div 0")]
        self.assertEqual(found, [("truth", True), ("number", "0.999999999"), ("number", "-1"), ("number", "Infinity")])
        found = [select(text, tree) for text in ("/r/a = 1 and /r/a != 1", "substring('12345', 1.5, 2.6)", "translate('bar', 'abc', 'ABC')")]
        self.assertEqual(found, [("truth", True), ("text", "234"), ("text", "BAr")])

    def test_transform(self):
        front = "<xsl:stylesheet version='1.0'><xsl:output method='text'/>"
        main = front + "<xsl:template match='a'>[<xsl:apply-templates/>]</xsl:template></xsl:stylesheet>"
        self.assertEqual(transform(Sheet(main), read("<r>x<a>y<a/></a></r>")).text, "x[y[]]")
        main = front + ('<xsl:template match="i">[<xsl:value-of select="position()"/>:<xsl:apply-templates/>]</xsl:template>'
                        "</xsl:stylesheet>")
        self.assertEqual(transform(Sheet(main), read("<r><i>a</i><i>b</i></r>")).text, "[1:a][2:b]")
        result = transform(Sheet('<o xsl:version="1.0" n="{count(r/i)}"/>'), read("<r><i/><i/></r>"))
        self.assertEqual(result.origins, [((0,), ("", (0,)), ()), ((0, "@n"), ("", (0,)), ())])

    def test_sheets(self):
        main = ('<xsl:stylesheet version="1.0"><xsl:template match="a | b/c" mode="m"/><xsl:template name="t"/>'
                "</xsl:stylesheet>")
        self.assertEqual(Sheet(main).template_names(), ["t"])

    def test_plain_stylesheets(self):
        front = '<xsl:stylesheet version="1.0"><xsl:template match="*"><x>'
        back = '<xsl:apply-templates select="*"/></x></xsl:template></xsl:stylesheet>'
        one, other = front + back, front + '<xsl:if test="a"><y/></xsl:if>' + back
        found = [unplain_at(other), source_for(one, "<x><y/></x>"), parting(one, one), parting(one, other) is None]
        self.assertEqual(found, [None, None, None, False])
        self.assertEqual(source_for(one, "<x><x/></x>"), "<e0><e0/></e0>")
        self.assertIn("<a/>", parting(one, other))
        self.assertIsNone(source_for(one, "<x><y/></x>"))

    def test_every_document(self):
        found = [contained("/a/*//b", "/a//*/b"), contained("/a[.//b]", "/a[b] | /a[*//b]"), contained("//*", "//a")]
        self.assertEqual(found, [True, True, False])

    def test_edits_and_readings(self):
        tree, edit = read("<r>a<b/>c</r>"), ("delete", (0, 1))
        found = [write(edited(tree, edit)), followed(tree, edit, (0, 2)), touched_parts(tree, edit)]
        self.assertEqual(found, ["<r>ac</r>", None, [((0,), "children"), ((0, 0), "text"), ((0, 1), "parent"), ((0, 2), "parent")]])
        self.assertEqual(read_parts("/r/a", read("<r><a/><b/></r>")), [
            ((), "children"), ((0,), "children"), ((0,), "name"), ((0, 0), "name"), ((0, 1), "name")])


if __name__ == "__main__":
    unittest.main()
