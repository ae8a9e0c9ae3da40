"""[7.1], [6.2], [6.10], [5.5]: documents, params, white space, keys, and wrong arguments of transform."""

import unittest

from pathloom.documents import read
from pathloom.errors import BadValue, Failed
from pathloom.places import places
from pathloom.running import Result, transform
from pathloom.sheets import Sheet
from pathloom.writing import write
from tests.made_results import HEAD, apply, at_root, failed, failed_at_root, made, rule, run, value
from tests.sheet_shown import sheet
from tests.shown import STRANGE

COPY = '<xsl:copy-of select="."/>'


class Documents(unittest.TestCase):
    DOCUMENTS = {"b": "<b> <i>1</i></b>", "a": "<a k='b'/>", "x y": "<c/>"}

    def value(self, path, **told):
        return at_root(value(path), "<r k='a'><l>b</l><l>a</l><l>b</l></r>", documents=self.DOCUMENTS, **told)

    def test_by_names(self):
        told = {"document('a')/a/@k": "b", "name(document('b')/*)": "b", "count(document(//l))": "2", "count(document(//l)//i)": "1", "count(document('a') | document('a'))": "1",
                "document(document('a')/a/@k)//i": "1", "name(document('x y')/*)": "c", "count(document(nothing))": "0", "count(document('b')/b/node())": "2",
                "count(document('a') | / | document('b'))": "3", "name(document('b')/b/i/ancestor::*)": "b", "count(document('a')/ancestor-or-self::node())": "1",
                "document('b')//i = 1": "true", "count(document('b')//i[count(/b) = 1])": "1"}
        for path, found in told.items():
            self.assertEqual(self.value(path), found, path)

    def test_numbers_and_order(self):
        told = {"generate-id()": "n0d0", "generate-id(document('a'))": "n1d0", "generate-id(document('b')//i)": "n2d3", "generate-id(document('x y'))": "n3d0",
                "generate-id(document(''))": "n4d0", "generate-id(document('x y') | document('b') | document('a')/*)": "n1d1", "generate-id(document('b') | /)": "n0d0",
                "name((document('x y')/* | document('b')/* | document('a')/*)[2])": "b", "generate-id(nothing)": "", "generate-id(document('') | document('x y'))": "n3d0",
                "generate-id(r/l[2])": "n0d5"}
        for path, found in told.items():
            self.assertEqual(self.value(path), found, path)
        self.assertEqual(at_root(value("generate-id(document(''))")), "n1d0")
        self.assertEqual(self.value("generate-id(document('b')//i)", more='<xsl:strip-space elements="*"/>'), "n2d2")

    def test_main_module(self):
        inner = rule("/", value("count(document('')//text()[normalize-space() = ''])") + ' <x a="{document(\'\')//comment()}"/>') + "\n<!--k-->\n"
        self.assertEqual(made(inner + '<xsl:strip-space elements="*"/>'), '3<x a="k"/>')
        self.assertEqual(at_root(value("document('')/*/*"), documents={"": "<q><q>own</q></q>"}), "own")
        self.assertEqual(at_root(value("generate-id(document(''))"), documents={"": "<q/>", "a": "<q/>"}), "n1d0")
        others = {"i": sheet(rule("a", value("name(document('')/*/*[1])")))}
        self.assertEqual(made('<xsl:import href="i"/>', "<a/>", others=others), "xsl:import")
        self.assertEqual(transform(Sheet("<o xsl:version='1.0' a='{name(document(\"\")/*)}'/>"), read("<r/>")).text, HEAD + '<o a="o"/>')

    def test_none_of_a_name(self):
        for path in ("document('q')", "document(//l)", "document('')/x | document(1)", "count(document('a ')) + 1"):
            self.assertEqual(failed_at_root(value(path), "<r><l>b</l><l>q</l></r>", documents={"a": "<a/>", "b": "<b/>"}), "document", path)
        self.assertEqual(failed_at_root(value("document('a')")), "document")
        self.assertEqual(failed_at_root(value("document('a')"), documents={}), "document")
        self.assertEqual(failed_at_root('<xsl:variable name="f"><x/></xsl:variable>' + value("document($f)")), None)

    def test_the_same_tree_twice(self):
        tree = read("<r/>")
        one = Sheet(sheet(rule("/", value("count(/ | document('a') | document('b') | document('a'))") + value("generate-id(document('b'))"))))
        self.assertEqual(transform(one, tree, None, {"a": tree, "b": tree}).text, HEAD + "3n2d0")

    def test_processed_by_rules(self):
        inner = rule("/", "(" + apply() + ")") + rule("r", apply("document(@d)")) + rule("i", "i" + value("position()"))
        self.assertEqual(made(inner, "<r d='e'/>", documents={"e": "<s><i/><i/></s>"}), "((i1i2))")


class Stripping(unittest.TestCase):
    def test_names(self):
        document = "<r> <a> <b> </b>\n</a>\t<c>x <d/> </c><a xml:space='preserve'> <b> </b></a></r>"
        told = {"": document, '<xsl:strip-space elements="*"/>': "<r><a><b/></a><c>x <d/></c><a xml:space=\"preserve\"> <b> </b></a></r>",
                '<xsl:strip-space elements="r  a"/>': "<r><a><b> </b></a><c>x <d/> </c><a xml:space=\"preserve\"> <b> </b></a></r>",
                '<xsl:strip-space elements="*"/><xsl:preserve-space elements="b"/>': "<r><a><b> </b></a><c>x <d/></c><a xml:space=\"preserve\"> <b> </b></a></r>",
                '<xsl:preserve-space elements="b"/><xsl:strip-space elements="*"/>': "<r><a><b> </b></a><c>x <d/></c><a xml:space=\"preserve\"> <b> </b></a></r>",
                '<xsl:strip-space elements="b"/><xsl:preserve-space elements="*"/>': "<r> <a> <b/>\n</a>\t<c>x <d/> </c><a xml:space=\"preserve\"> <b> </b></a></r>",
                '<xsl:strip-space elements="b"/><xsl:preserve-space elements="b"/>': document, '<xsl:preserve-space elements="b"/><xsl:strip-space elements="b"/>':
                "<r> <a> <b/>\n</a>\t<c>x <d/> </c><a xml:space=\"preserve\"> <b> </b></a></r>", '<xsl:strip-space elements="* "/><xsl:preserve-space elements="*"/>': document,
                '<xsl:strip-space elements=""/>': document}
        for outer, found in told.items():
            self.assertEqual(made(outer + rule("/", COPY), document), write(read(found)), outer)

    def test_precedences(self):
        others = {"strip": sheet('<xsl:strip-space elements="a b"/>'), "keep": sheet('<xsl:preserve-space elements="a"/>'), "all": sheet('<xsl:strip-space elements="*"/>')}
        document = "<r><a> </a><b> </b></r>"
        told = {("strip", "keep", ""): "<r><a> </a><b/></r>", ("keep", "strip", ""): "<r><a/><b/></r>", ("keep", "all", ""): "<r><a/><b/></r>",
                ("all", "keep", ""): "<r><a> </a><b/></r>", ("strip", "all", '<xsl:preserve-space elements="*"/>'): document, ("all", "keep", '<xsl:strip-space elements="a"/>'): "<r><a/><b/></r>"}
        for (one, two, own), found in told.items():
            inner = f'<xsl:import href="{one}"/><xsl:import href="{two}"/>{own}' + rule("/", COPY)
            self.assertEqual(made(inner, document, others=others), found, (one, two))

    def test_space_of_the_document(self):
        document = "<r xml:space='preserve'> <a> <b xml:space='default'> <c> </c></b> </a></r>"
        self.assertEqual(made('<xsl:strip-space elements="*"/>' + rule("/", COPY), document), "<r xml:space=\"preserve\"> <a> <b xml:space=\"default\"><c/></b> </a></r>")

    def test_documents_too(self):
        inner = '<xsl:strip-space elements="*"/>' + rule("/", "<x><xsl:copy-of select=\"document('a')\"/></x>")
        self.assertEqual(made(inner, documents={"a": "<a> <b/> </a>"}), "<x><a><b/></a></x>")

    def test_nothing_is_changed(self):
        tree, other = read("<r> <a/> </r>"), read("<q> </q>")
        given = ({"p": "1"}, {"d": other})
        one = Sheet(sheet('<xsl:strip-space elements="*"/><xsl:param name="p"/>' + rule("/", COPY + "<xsl:copy-of select=\"document('d')\"/>" + value("$p"))))
        for _ in range(3):
            self.assertEqual(transform(one, tree, *given).text, HEAD + "<r><a/></r><q/>1")
        self.assertEqual((write(tree), write(other), len(places(tree))), ("<r> <a/> </r>", "<q> </q>", 5))
        self.assertEqual(given, ({"p": "1"}, {"d": other}))

    def test_modules(self):
        told = {"<x> <y/> </x>": "<x><y/></x>", "<x xml:space='preserve'> <y> </y></x>": "<x> <y> </y></x>", "<x xml:space='preserve'><y xml:space='default'> </y></x>": "<x><y/></x>",
                "<x> a<!--c--> </x>": "<x> a </x>", "<x> <!--c--> </x>": "<x/>", "<x> <xsl:text> </xsl:text></x>": "<x> </x>", "<x>&#32;</x>": "<x/>"}
        for body, found in told.items():
            self.assertEqual(at_root(body), found, body)


class Keys(unittest.TestCase):
    KEYS = '<xsl:key name="k" match="i" use="@k"/><xsl:key name="n" match="*" use="name()"/>'
    DOCUMENT = "<r><i k='1'>a</i><i k='2'>b</i><j k='1'>c</j><i k='1'>d</i></r>"

    def test_in_paths(self):
        told = {"count(key('k', '1'))": "2", "key('k', 2)": "b", "count(key('k', //@k))": "3", "count(key('k', nothing))": "0", "key('k', '1')[2]": "d",
                "count(key('n', 'i')[. = key('k', '2')])": "1", "count(key(concat('', 'k'), 1))": "2", "key('n', 'j')/@k": "1", "count(key('k', '3'))": "0"}
        for path, found in told.items():
            self.assertEqual(at_root(value(path), self.DOCUMENT, self.KEYS), found, path)

    def test_of_several_modules(self):
        others = {"m": sheet('<xsl:key name="k" match="j" use="@k"/><xsl:key name="k" match="i[2]" use="\'x\'"/>')}
        inner = '<xsl:import href="m"/>' + self.KEYS
        self.assertEqual(made(inner + rule("/", value("count(key('k', '1'))") + value("key('k', 'x')")), self.DOCUMENT, others=others), "3b")

    def test_in_patterns_and_templates(self):
        inner = self.KEYS + rule("r", apply("*")) + rule("*", "-") + rule("key('k', '1')", '<x a="{count(key(\'k\', @k))}"/>', ' priority="1"')
        self.assertEqual(made(inner, self.DOCUMENT), '<x a="2"/>--<x a="2"/>')

    def test_in_several_documents(self):
        body = value("count(key('k', '1'))") + "<xsl:for-each select=\"document('d')\">" + value("count(key('k', '1'))") + "</xsl:for-each>" + value("count(document('d')//i[count(key('k', '1')) = 1])")
        self.assertEqual(at_root(body, self.DOCUMENT, self.KEYS, documents={"d": "<d><i k='1'/><i k='5'/></d>"}), "212")
        inner = '<xsl:strip-space elements="*"/><xsl:key name="t" match="text()" use="\'1\'"/>'
        self.assertEqual(at_root(value("count(key('t', '1'))"), "<r> <a>x</a> </r>", inner), "1")

    def test_failures(self):
        self.assertEqual(failed_at_root(value("key('q', '1')"), more=self.KEYS), "key")
        self.assertEqual(failed_at_root(value("key('k', '1')")), "key")
        circle = '<xsl:key name="c" match="r" use="key(\'d\', \'1\')"/><xsl:key name="d" match="r[key(\'c\', \'1\')]" use="1"/>'
        self.assertEqual(failed_at_root(value("key('c', '1')"), more=circle), "circle")
        self.assertEqual(failed_at_root(value("1"), more=circle), None)
        self.assertEqual(failed(rule("key('q', '1')", "x")), "key")
        self.assertEqual(failed(rule("q[count(1)]", "x")), None)
        self.assertEqual(failed(rule("r[count(1)]", "x")), "nodes")

    def test_context_of_use(self):
        inner = '<xsl:key name="p" match="*" use="position() + last()"/><xsl:key name="u" match="*" use="current()/@k"/>'
        self.assertEqual(at_root(value("count(key('p', '2'))") + value("count(key('u', '1'))"), self.DOCUMENT, inner), "53")


class Sheets(unittest.TestCase):
    def test_used_again(self):
        one = Sheet(sheet('<xsl:variable name="v" select="count(//a)"/>' + rule("/", value("$v")) + '<xsl:key name="k" match="a" use="1"/>'))
        for many in (3, 0, 5):
            self.assertEqual(transform(one, read("<r>" + "<a/>" * many + "</r>")).text, HEAD + str(many))

    def test_arguments_by_name(self):
        one = Sheet(main=sheet('<xsl:param name="p"/>' + rule("/", value("$p") + value("document('d')"))), others=None)
        result = transform(sheet=one, tree=read("<r/>"), params={"p": "x"}, documents={"d": read("<d>y</d>")})
        self.assertIsInstance(result, Result)
        self.assertEqual((result.text, result.messages, result.origins), (HEAD + "xy", [], [((0,), ("", (0, 1, 0)), ())]))

    def test_what_is_never_used_may_be_left_out(self):
        inner = rule("r", "<x>" + apply() + "</x>") + rule("a", "y")
        for more in (rule("q", value("count(1)")), '<xsl:variable name="v" select="count(1)"/>', '<xsl:template name="t">z</xsl:template>', '<xsl:key name="k" match="r" use="count(1)"/>'):
            self.assertEqual(run(inner + more, "<r><a/>b</r>").text, run(inner, "<r><a/>b</r>").text)

    def test_large(self):
        inner = rule("r", "<x>" + apply("a[position() mod 2 = 0]") + "</x>") + rule("a", '<y n="{@n}">' + value(".") + "</y>")
        text = made(inner, "<r>" + "".join(f"<a n='{at}'>{at}</a>" for at in range(1600)) + "</r>")
        self.assertEqual(text, "<x>" + "".join(f'<y n="{at}">{at}</y>' for at in range(1, 1600, 2)) + "</x>")
        copies = rule("r", "<x>" + '<xsl:copy-of select="."/>' * 11 + "</x>")
        self.assertEqual(len(run(copies, "<r>" + "<a/>" * 4900 + "</r>").origins), 1 + 11 * 4901)


class Errors(unittest.TestCase):
    def test_wrong_arguments(self):
        one, tree = Sheet(sheet("")), read("<r/>")
        for thing in STRANGE + [1, (), "", sheet(""), tree, Sheet]:
            self.assertRaises(BadValue, transform, thing, tree)
            if thing is not tree:
                self.assertRaises(BadValue, transform, one, thing)
            if thing is not None and thing != {} and not isinstance(thing, dict):
                self.assertRaises(BadValue, transform, one, tree, thing)
                self.assertRaises(BadValue, transform, one, tree, None, thing)
        for given in ({1: "a"}, {"a": 1}, {"a": None}, {"a": True}, {"": "x"}, {"a b": "x"}, {"1": "x"}, {"a": "x", "b": b"x"}, {None: "x"}, {"a": ["x"]}):
            self.assertRaises(BadValue, transform, one, tree, given)
        for given in ({1: tree}, {"a": "<a/>"}, {"a": None}, {"a": tree, "b": one}, {None: tree}, {"a": tree.root}, {("a",): tree}):
            self.assertRaises(BadValue, transform, one, tree, None, given)
        self.assertEqual(transform(one, tree, {}, {}).text, HEAD)

    def test_before_anything_is_carried_out(self):
        one, tree = Sheet(sheet(rule("/", value("count(1)")))), read("<r/>")
        self.assertRaises(BadValue, transform, one, tree, {"a": 1})
        self.assertRaises(BadValue, transform, one, tree, None, 1)
        self.assertRaises(Failed, transform, one, tree, {"a": "1"}, {"any name!": tree})


if __name__ == "__main__":
    unittest.main()
