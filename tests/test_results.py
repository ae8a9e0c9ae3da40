"""[7.9] to [7.16], [8]: sorting, the nodes of results, origins, limits, and results as texts."""

import itertools
import unittest

from pathloom.documents import read
from pathloom.running import transform
from pathloom.sheets import Sheet
from pathloom.writing import write
from tests.made_results import HEAD, apply, at_root, failed, failed_at_root, made, rule, run, value
from tests.sheet_shown import sheet
from tests.shown import EVERYTHING

IDENTITY = rule("@*|node()", '<xsl:copy><xsl:apply-templates select="@*|node()"/></xsl:copy>')


class Sorting(unittest.TestCase):
    def order(self, items, *sorts):
        document = "<r>" + "".join(f"<i k='{key}' l='{at % 2}'>{at}</i>" for at, key in enumerate(items)) + "</r>"
        inner = "".join(f"<xsl:sort {told}/>" for told in sorts)
        found = at_root(f'<xsl:for-each select="r/i">{inner}' + value("concat(., ' ')") + "</xsl:for-each>", document)
        applied = made(rule("/", apply("r/i", "", inner)) + rule("i", value("concat(., ' ')")), document)
        self.assertEqual(found, applied)
        return [int(word) for word in found.split()]

    def test_by_text(self):
        items = ["b", "a", "B", "ab", "", "a", "10", "9"]
        self.assertEqual(self.order(items, 'select="@k"'), [4, 6, 7, 2, 1, 5, 3, 0])
        self.assertEqual(self.order(items, 'select="@k" order="descending"'), [0, 3, 1, 5, 2, 7, 6, 4])
        self.assertEqual(self.order(items, 'select="@k" data-type="text" order="ascending"'), [4, 6, 7, 2, 1, 5, 3, 0])

    def test_by_number(self):
        items = ["10", "9", "x", "-1", "9.0", "", "0.5", " 7 ", "Infinity"]
        self.assertEqual(self.order(items, 'select="@k" data-type="number"'), [2, 5, 8, 3, 6, 7, 1, 4, 0])
        self.assertEqual(self.order(items, 'select="@k" data-type="number" order="descending"'), [0, 1, 4, 7, 6, 3, 2, 5, 8])
        # The key is taken as a text: that of an infinite number is none.
        self.assertEqual(self.order(["1", "0", "2"], 'select="1 div @k" data-type="number" order="descending"'), [0, 2, 1])

    def test_several_keys(self):
        items = ["a", "b", "a", "b", "a"]
        self.assertEqual(self.order(items, 'select="@k"', 'select="." order="descending"'), [4, 2, 0, 3, 1])
        self.assertEqual(self.order(items, 'select="@l" data-type="number"', 'select="@k" order="descending"'), [0, 2, 4, 1, 3])
        self.assertEqual(self.order(items), [0, 1, 2, 3, 4])
        self.assertEqual(self.order(["2", "10", "1"], ""), [0, 1, 2])
        self.assertEqual(self.order(items, "select=\"''\""), [0, 1, 2, 3, 4])

    def test_context_of_the_keys(self):
        self.assertEqual(self.order(["a", "b", "c"], 'select="last() - position()"'), [2, 1, 0])
        self.assertEqual(self.order(["a", "b", "c"], 'select="count(current()/following-sibling::*)"'), [2, 1, 0])

    def test_templates(self):
        body = ('<xsl:for-each select="r/i"><xsl:sort select="." order="{$o}" data-type="{concat(\'num\', \'ber\')}"/>' + value(".") + "</xsl:for-each>")
        for order, found in (("ascending", "910"), ("descending", "109")):
            self.assertEqual(at_root(f'<xsl:variable name="o" select="\'{order}\'"/>{body}', "<r><i>10</i><i>9</i></r>"), found)
        inner = '<xsl:for-each select="r"><xsl:for-each select="i"><xsl:sort select="." order="{@o}"/>' + value(".") + "</xsl:for-each></xsl:for-each>"
        self.assertEqual(at_root(inner, "<r o='descending'><i>1</i><i>2</i></r>"), "21")

    def test_failures(self):
        for told in ('order="up"', 'order=""', 'data-type="words"', 'data-type="{r}"', 'order="{1}" select="count(1)"', 'order="Ascending"'):
            for path in ("r/i", "r/q"):
                self.assertEqual(failed_at_root(f'<xsl:for-each select="{path}"><xsl:sort {told}/></xsl:for-each>', "<r><i/></r>"), "sort")
                self.assertEqual(failed_at_root(apply(path, "", f"<xsl:sort {told}/>"), "<r><i/></r>"), "sort")
        self.assertEqual(failed_at_root('<xsl:for-each select="1"><xsl:sort order="up"/></xsl:for-each>'), "nodes")
        self.assertEqual(failed_at_root('<xsl:for-each select="r"><xsl:sort select="count(1)"/><xsl:sort order="up"/></xsl:for-each>'), "sort")
        self.assertEqual(failed_at_root('<xsl:for-each select="r"><xsl:sort order="{count(1)}" data-type="x"/></xsl:for-each>'), "nodes")
        self.assertEqual(failed_at_root('<xsl:for-each select="r"><xsl:sort order="up" data-type="{count(1)}"/></xsl:for-each>'), "sort")
        self.assertEqual(failed_at_root('<xsl:for-each select="r/q"><xsl:sort select="count(1)"/></xsl:for-each>'), None)

    def test_all_small_rows(self):
        for items in itertools.product(["1", "2", "x"], repeat=4):
            told = sorted(range(4), key=lambda at: items[at])
            self.assertEqual(self.order(list(items), 'select="@k"'), told)
            told = sorted(range(4), key=lambda at: (-1 if items[at] == "x" else int(items[at])))
            self.assertEqual(self.order(list(items), 'select="@k" data-type="number"'), told)


class Nodes(unittest.TestCase):
    def test_texts(self):
        self.assertEqual(at_root(" a <x/>  <y/>\n<xsl:text> </xsl:text>"), " a <x/><y/> ")
        self.assertEqual(at_root("<x>a<!--c-->b<?p?>c</x>"), "<x>abc</x>")
        self.assertEqual(at_root("<x>" + value("''") + "<xsl:text/></x>"), "<x/>")
        self.assertEqual(at_root("<x xml:space='preserve'> <y/> </x>"), "<x> <y/> </x>")
        self.assertEqual(at_root("&lt;&amp;&gt;\"'<![CDATA[<]]>"), "&lt;&amp;&gt;\"'&lt;")

    def test_literal_elements(self):
        self.assertEqual(at_root("<a:b c='1' xmlns='u' d:e=''/>"), '<a:b c="1" xmlns="u" d:e=""/>')
        self.assertEqual(at_root("<a xmlns:xsl='x' xsl:version='1.0' xml:space='default' b='1'/>"), '<a b="1"/>')
        told = {"{1 + 1}": "2", "a{r}b{r/@c}": "axbd", "{{{'{'}}}": "{{}", "{'}'}{\"'\"}": "}'", "": "", "{r/q}": "", "{{}}": "{}", "{r = 'x'}": "true", "{1}{2}": "12"}
        for text, found in told.items():
            quote = "'" if '"' in text else '"'
            written = text.replace("'", "&apos;").replace('"', "&quot;")
            self.assertEqual(at_root(f"<a b={quote}{written}{quote}/>", "<r c='d'>x</r>"), f'<a b="{found}"/>', text)

    def test_computed_elements(self):
        self.assertEqual(at_root('<xsl:element name="{concat(\'a\', \':b\')}">x</xsl:element>'), "<a:b>x</a:b>")
        self.assertEqual(at_root('<xsl:element name="xmlns"/>'), "<xmlns/>")
        for name in ("", "1", "a b", "a:", ":a", "a:b:c", "{r}", "&#32;a", "$"):
            self.assertEqual(failed_at_root(f'<xsl:element name="{name}">' + value("count(1)") + "</xsl:element>", "<r/>"), "name", name)

    def test_attributes(self):
        attribute = '<xsl:attribute name="{}">{}</xsl:attribute>'.format
        told = {
            "<x>" + attribute("a", "1") + "</x>": '<x a="1"/>', "<x b='2'>" + attribute("a", "1") + "</x>": '<x b="2" a="1"/>',
            "<x a='2' b='3'>" + attribute("a", "1") + "</x>": '<x a="1" b="3"/>', "<x>t" + attribute("a", "1") + "</x>": "<x>t</x>",
            "<x><y/>" + attribute("a", "1") + "</x>": "<x><y/></x>", "<x><xsl:comment/>" + attribute("a", "1") + "</x>": "<x><!----></x>",
            "<x>" + value("''") + attribute("a", "1") + "</x>": '<x a="1"/>', attribute("a", "1") + "<x/>": "<x/>",
            "<x>" + attribute("a", "1") + attribute("b", "2") + attribute("a", "3") + "</x>": '<x a="3" b="2"/>',
            "<x>" + attribute("a", "p<y c='d'>q<xsl:comment>r</xsl:comment></y>" + attribute("z", "r")) + "</x>": '<x a="pq"/>',
            "<x>" + attribute("n{1 + 1}", value("1 + 1")) + "</x>": '<x n2="2"/>', "<x><y>" + attribute("a", "1") + "</y></x>": '<x><y a="1"/></x>',
            "<x>" + attribute("xmlns:p", "1") + "</x>": '<x xmlns:p="1"/>', "<x>" + attribute("a", "") + "</x>": '<x a=""/>',
            "<x>" + attribute("a", "&#10;&lt;\t") + "</x>": '<x a="&#10;&lt;&#9;"/>',
            "<x><xsl:if test='1'>" + attribute("a", "1") + "</xsl:if></x>": '<x a="1"/>', "<xsl:element name='x'>" + attribute("a", "1") + "</xsl:element>": '<x a="1"/>',
        }
        for body, found in told.items():
            self.assertEqual(at_root(body), found, body)
        for name in ("xmlns", "", "1a", "a b", "{r}", "a:b:c"):
            for body in ("<x>{}</x>", "<x>t{}</x>", "{}", "<xsl:comment>{}</xsl:comment>"):
                self.assertEqual(failed_at_root(body.format(attribute(name, ""))), "name", name)

    def test_comments(self):
        told = {"a": "a", "": "", "--": "- - ", "---": "- - - ", "a-": "a- ", "-a": "-a", "a--b": "a- -b", "-": "- ", "-->": "- ->", "a<x>b</x>": "ab",
                "- -": "- - "}
        for text, found in told.items():
            body = text.replace("-->", "--&gt;")
            self.assertEqual(at_root(f"<xsl:comment>{body}</xsl:comment>"), f"<!--{found}-->", text)
        self.assertEqual(at_root("<x>a<xsl:comment>b</xsl:comment>c</x>"), "<x>a<!--b-->c</x>")

    def test_instructions(self):
        told = {"a": "<?p a?>", "": "<?p?>", "?>": "<?p ? >?>", " \t\na ": "<?p a ?>", "??>": "<?p ?? >?>", "a?": "<?p a??>", " ": "<?p?>"}
        for text, found in told.items():
            body = text.replace(">", "&gt;") if text.strip() else f"<xsl:text>{text}</xsl:text>"
            self.assertEqual(at_root(f"<xsl:processing-instruction name='p'>{body}</xsl:processing-instruction>"), found, text)
        for name in ("", "xml", "XML", "xMl", "a:b", "1", "{r}", " p"):
            self.assertEqual(failed_at_root(f'<xsl:processing-instruction name="{name}"/>'), "name", name)
        self.assertEqual(at_root('<xsl:processing-instruction name="xml{1}"/>'), "<?xml1?>")

    def test_sets(self):
        def attributes(*names):
            return "".join(f'<xsl:attribute name="{name[0]}">{name[1:]}</xsl:attribute>' for name in names)

        def of(name, names, used=""):
            used = f' use-attribute-sets="{used}"' if used else ""
            return f'<xsl:attribute-set name="{name}"{used}>{attributes(*names)}</xsl:attribute-set>'
        more = of("s", ["a1", "b1"]) + of("t", ["b2", "c2"], "s") + of("u", ["a3"]) + of("s", ["d4"], "u") + of("e", [])
        told = {"<x xsl:use-attribute-sets='s'/>": '<x a="3" b="1" d="4"/>', "<x xsl:use-attribute-sets='t'/>": '<x a="3" b="2" d="4" c="2"/>',
                "<x xsl:use-attribute-sets='u s'/>": '<x a="3" b="1" d="4"/>', "<x xsl:use-attribute-sets='s u' a='9' e='8'/>": '<x a="9" b="1" d="4" e="8"/>',
                "<x xsl:use-attribute-sets='e'>t</x>": "<x>t</x>", "<x xsl:use-attribute-sets=''/>": "<x/>",
                "<xsl:element name='y' use-attribute-sets='u'><xsl:attribute name='a'>5</xsl:attribute>t</xsl:element>": '<y a="5">t</y>',
                "<xsl:for-each select='r'><xsl:copy use-attribute-sets=' u  e '/></xsl:for-each>": '<r a="3"/>',
                "<xsl:for-each select='r/text()'><xsl:copy use-attribute-sets='u'/></xsl:for-each>": "w", "<x use-attribute-sets='u'/>": '<x use-attribute-sets="u"/>'}
        for body, found in told.items():
            self.assertEqual(at_root(body, "<r>w</r>", more), found, body)
        others = {"i": sheet(of("s", ["a1", "b1"])), "j": sheet(of("s", ["b2", "c2"]))}
        head = '<xsl:import href="j"/><xsl:import href="i"/>'
        self.assertEqual(made(head + of("s", ["c3"]) + rule("/", "<x xsl:use-attribute-sets='s'/>"), others=others), '<x b="1" c="3" a="1"/>')

    def test_sets_where_they_are_used(self):
        more = '<xsl:attribute-set name="s"><xsl:attribute name="a">' + value("concat(name(), position(), $v)") + '</xsl:attribute></xsl:attribute-set><xsl:variable name="v" select="5"/>'
        body = '<xsl:for-each select="r/*"><xsl:variable name="v" select="6"/><x xsl:use-attribute-sets="s"/></xsl:for-each>'
        self.assertEqual(at_root(body, "<r><a/><b/></r>", more), '<x a="a15"/><x a="b25"/>')

    def test_many_sets(self):
        rows = [f'<xsl:attribute-set name="s{at}" use-attribute-sets="s{at + 1} s{at + 1}"/>' for at in range(60)]
        rows.append('<xsl:attribute-set name="s60"><xsl:attribute name="a">1</xsl:attribute></xsl:attribute-set>')
        self.assertEqual(failed_at_root("<x xsl:use-attribute-sets='s0'/>", more="".join(rows)), "long")
        self.assertEqual(at_root("<x xsl:use-attribute-sets='s50'/>", more="".join(rows)), '<x a="1"/>')

    def test_copy(self):
        document = "<r a='1' xmlns='u'>x<b c='2'/><!--k--><?p q?></r>"
        told = {"r": "<r>z</r>", "/": "z", "r/text()": "x", "r/comment()": "<!--k-->", "r/processing-instruction()": "<?p q?>", "r/@a": "", "r/b": "<b>z</b>"}
        for path, found in told.items():
            self.assertEqual(at_root(f'<xsl:for-each select="{path}"><xsl:copy>z</xsl:copy></xsl:for-each>', document), found, path)
        self.assertEqual(at_root('<x><xsl:for-each select="r/@*"><xsl:copy>z</xsl:copy></xsl:for-each></x>', document), '<x a="1" xmlns="u"/>')
        self.assertEqual(at_root('<x>t<xsl:for-each select="r/@*"><xsl:copy/></xsl:for-each></x>', document), "<x>t</x>")
        self.assertEqual(at_root('<x><xsl:attribute name="y"><xsl:for-each select="r/node()"><xsl:copy>z</xsl:copy></xsl:for-each></xsl:attribute></x>', document), '<x y="xz"/>')

    def test_copy_of(self):
        document = "<r a='1'>x<b c='2'><d/>y</b><!--k--><?p q?></r>"
        told = {"r": write(read(document)), "/": write(read(document)), "r/b": '<b c="2"><d/>y</b>', "r/node()": 'x<b c="2"><d/>y</b><!--k--><?p q?>', "r/@a": "",
                "//text()": "xy", "//b | //d": '<b c="2"><d/>y</b><d/>', "'a'": "a", "1.0": "1", "1 = 1": "true", "q": ""}
        for path, found in told.items():
            self.assertEqual(at_root(f'<xsl:copy-of select="{path}"/>', document), found, path)
        self.assertEqual(at_root('<x a="0"><xsl:copy-of select="//@*"/></x>', document), '<x a="1" c="2"/>')
        self.assertEqual(at_root('<x>t<xsl:copy-of select="//@*"/></x>', document), "<x>t</x>")
        self.assertEqual(at_root('<x><xsl:copy-of select="r/text() | r/@a"/></x>', document), '<x a="1">x</x>')

    def test_identity(self):
        for document in (EVERYTHING, "<a/>", "<a xml:space='x'> <b/> </a>"):
            self.assertEqual(run(IDENTITY, document).text, HEAD + write(read(document)))
        self.assertEqual(run('<xsl:strip-space elements="*"/>' + IDENTITY, "<a> <b> x</b>\n<c>\t</c></a>").text, HEAD + "<a><b> x</b><c/></a>")
        other = rule("/ | node()", "<xsl:copy><xsl:for-each select='@*'><xsl:attribute name='{name()}'>" + value(".") + "</xsl:attribute></xsl:for-each>" + apply() + "</xsl:copy>")
        third = rule("/", '<xsl:copy-of select="."/>')
        for document in (EVERYTHING, "<r a='1'>x<b c='2'><d/>y</b><!--k--><?p q?></r>"):
            self.assertEqual(run(other, document).text, run(IDENTITY, document).text)
            self.assertEqual(run(third, document).text, run(IDENTITY, document).text)


class Origins(unittest.TestCase):
    def origins(self, inner, document="<r/>", **told):
        return run(inner, document, **told).origins

    def test_each_sort(self):
        body = ("a<x b='{1}'><xsl:comment>c</xsl:comment><xsl:processing-instruction name='p'/>" + value("1") + "<xsl:text>u</xsl:text></x>"
                "<xsl:element name='y'><xsl:attribute name='z'>1</xsl:attribute></xsl:element>")
        here = (0, 0)
        self.assertEqual(self.origins(rule("/", body)), [
            ((0,), ("", (*here, 0)), ()), ((1,), ("", (*here, 1)), ()), ((1, "@b"), ("", (*here, 1)), ()), ((1, 0), ("", (*here, 1, 0)), ()),
            ((1, 1), ("", (*here, 1, 1)), ()), ((1, 2), ("", (*here, 1, 2)), ()), ((2,), ("", (*here, 2)), ()), ((2, "@z"), ("", (*here, 2, 0)), ())])

    def test_current_nodes(self):
        inner = rule("r", "<x>" + apply("@* | node()") + "</x>") + rule("@a", value(".")) + rule("b", "<y/>") + rule("@c | text()", "<z><xsl:copy/></z>")
        self.assertEqual(self.origins(inner, "<r a='1' c='2'>t<b/></r>"), [
            ((0,), ("", (0, 0, 0)), (0,)), ((0, 0), ("", (0, 1, 0)), (0, "@a")), ((0, 1), ("", (0, 3, 0)), (0, "@c")), ((0, 1, "@c"), ("", (0, 3, 0, 0)), (0, "@c")),
            ((0, 2), ("", (0, 3, 0)), (0, 0)), ((0, 2, 0), ("", (0, 3, 0, 0)), (0, 0)), ((0, 3), ("", (0, 2, 0)), (0, 1))])

    def test_built_in_rules(self):
        self.assertEqual(self.origins("", "<r>a<b>c</b></r>"), [((0,), None, (0, 0))])
        self.assertEqual(self.origins(rule("b", "<x/>" + apply()), "<r>a<b>c</b></r>"), [((0,), None, (0, 0)), ((1,), ("", (0, 0, 0)), (0, 1)), ((2,), None, (0, 1, 0))])
        self.assertEqual(self.origins(rule("r", apply("@*")), "<r a='x'/>"), [((0,), None, (0, "@a"))])

    def test_replaced_attributes(self):
        body = "<x a='1' b='2'><xsl:attribute name='a'>3</xsl:attribute></x>"
        self.assertEqual(self.origins(rule("/", body)), [((0,), ("", (0, 0, 0)), ()), ((0, "@a"), ("", (0, 0, 0, 0)), ()), ((0, "@b"), ("", (0, 0, 0)), ())])

    def test_sets(self):
        inner = rule("r", "<x xsl:use-attribute-sets='s' b='1'/>") + '<xsl:attribute-set name="s"><xsl:attribute name="a"/><xsl:attribute name="b"/></xsl:attribute-set>'
        self.assertEqual(self.origins(inner), [((0,), ("", (0, 0, 0)), (0,)), ((0, "@a"), ("", (0, 1, 0)), (0,)), ((0, "@b"), ("", (0, 0, 0)), (0,))])

    def test_copies_and_fragments(self):
        inner = rule("/", '<xsl:variable name="v"><a b="1">c</a></xsl:variable>' + apply("r")) + rule("r", '<q><xsl:copy-of select="@*"/><xsl:copy-of select="node()"/></q>')
        self.assertEqual(self.origins(inner, "<r k='1'><a l='2'>x</a></r>"), [
            ((0,), ("", (0, 1, 0)), (0,)), ((0, "@k"), ("", (0, 1, 0, 0)), (0,)), ((0, 0), ("", (0, 1, 0, 1)), (0,)), ((0, 0, "@l"), ("", (0, 1, 0, 1)), (0,)),
            ((0, 0, 0), ("", (0, 1, 0, 1)), (0,))])
        inner = rule("/", '<xsl:variable name="v"><a b="1">c</a></xsl:variable><xsl:for-each select="r"><xsl:copy-of select="$v"/></xsl:for-each>')
        self.assertEqual(self.origins(inner), [((0,), ("", (0, 0, 1, 0)), (0,)), ((0, "@b"), ("", (0, 0, 1, 0)), (0,)), ((0, 0), ("", (0, 0, 1, 0)), (0,))])

    def test_stripped_sources_and_other_trees(self):
        inner = '<xsl:strip-space elements="*"/>' + rule("a", "<x/>") + rule("/", apply("r/a | document('d')//a | document('')//q")) + rule("q", "<q/>")
        self.assertEqual(self.origins(inner, "<r> <a/>\n<a/></r>", documents={"d": "<a/>"})[:3],
                         [((0,), ("", (0, 1, 0)), (0, 1)), ((1,), ("", (0, 1, 0)), (0, 3)), ((2,), ("", (0, 1, 0)), None)])
        tree = read("<r> <a/></r>")
        inner = rule("/", '<xsl:for-each select="//a | document(\'d\')//a"><x/></xsl:for-each>')
        self.assertEqual([row[2] for row in transform(Sheet(sheet(inner)), tree, None, {"d": tree}).origins], [(0, 1), None])

    def test_other_modules(self):
        others = {"i": "<!--c-->" + sheet("<!--c-->" + rule("a", "x<!--d-->y<z/>"))}
        self.assertEqual(self.origins('<xsl:import href="i"/>', "<a/>", others=others), [((0,), ("i", (1, 1, 0)), (0,)), ((1,), ("i", (1, 1, 3)), (0,))])
        self.assertEqual(transform(Sheet("<o xsl:version='1.0'>x<p/></o>"), read("<r/>")).origins, [((0,), ("", (0,)), ()), ((0, 0), ("", (0, 0)), ()), ((0, 1), ("", (0, 1)), ())])

    def test_copy_and_messages(self):
        self.assertEqual(self.origins(IDENTITY, "<r a='1'>x</r>"), [((0,), ("", (0, 0, 0)), (0,)), ((0, "@a"), ("", (0, 0, 0)), (0, "@a")), ((0, 0), ("", (0, 0, 0)), (0, 0))])
        self.assertEqual(self.origins(rule("/", "<xsl:message>x</xsl:message>")), [])
        self.assertEqual(self.origins('<xsl:output method="text"/>' + rule("/", "<x/>")), [((0,), ("", (0, 1, 0)), ())])

    def test_new_lists(self):
        one, tree = Sheet(sheet(rule("/", "x<xsl:message>m</xsl:message>"))), read("<r/>")
        result = transform(one, tree)
        result.origins.clear()
        result.messages.append(1)
        again = transform(one, tree)
        self.assertEqual((again.text, again.messages, again.origins), (HEAD + "x", ["m"], [((0,), ("", (0, 0, 0)), ())]))


class Limits(unittest.TestCase):
    def nested(self, many, inner=""):
        """A named template that calls itself: each call is a body, as is each if."""
        return '<xsl:call-template name="t"><xsl:with-param name="n" select="' + str(many) + '"/></xsl:call-template>', (
            '<xsl:template name="t"><xsl:param name="n"/>' + inner + '<xsl:if test="$n &gt; 1"><xsl:call-template name="t"><xsl:with-param name="n" select="$n - 1"/>'
            "</xsl:call-template></xsl:if></xsl:template>")

    def test_deep(self):
        # The template of `/` is one, and each call two but the last.
        for many, word in ((49, None), (50, None), (51, "deep")):
            body, more = self.nested(many)
            self.assertEqual(failed_at_root(body, more=more), word, many)
        body, more = self.nested(50, "<x/>")
        self.assertEqual(failed_at_root(body, more=more), "deep")
        body, more = self.nested(50, "x")
        self.assertEqual(failed_at_root(body, more=more), None)

    def test_deep_by_built_in_rules(self):
        for levels, word in ((98, None), (99, None), (100, "deep")):
            self.assertEqual(failed("", "<a>" * levels + "</a>" * levels), word)
        self.assertEqual(failed(rule("a[not(a)]", "x"), "<a>" * 99 + "</a>" * 99), None)
        self.assertEqual(failed(rule("a[not(a)]", "x"), "<a>" * 100 + "</a>" * 100), "deep")
        self.assertEqual(failed(rule("a", apply()), "<a>" * 99 + "</a>" * 99), None)
        self.assertEqual(failed(rule("a", apply()), "<a>" * 100 + "</a>" * 100), "deep")

    def test_deep_by_each_body(self):
        bodies = ['<xsl:for-each select=".">{}</xsl:for-each>', '<xsl:if test="1">{}</xsl:if>', "<xsl:choose><xsl:when test='1'>{}</xsl:when></xsl:choose>",
                  "<xsl:choose><xsl:when test='0'/><xsl:otherwise>{}</xsl:otherwise></xsl:choose>", "<x>{}</x>", "<xsl:copy>{}</xsl:copy>",
                  "<xsl:element name='x'>{}</xsl:element>", "<xsl:attribute name='x'>{}</xsl:attribute>", "<xsl:comment>{}</xsl:comment>", "<xsl:message>{}</xsl:message>",
                  "<xsl:processing-instruction name='x'>{}</xsl:processing-instruction>", "<xsl:variable name='x'>{}</xsl:variable>",
                  '<xsl:call-template name="none"><xsl:with-param name="x">{}</xsl:with-param></xsl:call-template>']
        for body in bodies:
            # 96 elements of the source and the root, a body of a template, and then the one in question.
            for levels, word in ((97, None), (98, "deep")):
                document = "<a>" * levels + "</a>" * levels
                inner = rule("a[not(a)]", body.format("x")) + '<xsl:template name="none"/>'
                self.assertEqual(failed(inner, document), None, body)
                inner = rule("a[not(a)]", body.format("x" + body.format("y").replace("name='x'", "name='y'"))) + '<xsl:template name="none"/>'
                self.assertEqual(failed(inner, document), word, body)

    def test_long(self):
        # 1 for-each, and 2 in each of 40 bodies, with 1 for each of 20 times 12 and some.
        items = "<i/>" * 100
        body = '<xsl:for-each select="//i"><xsl:for-each select="//i">{}</xsl:for-each></xsl:for-each>'
        # 1 + 100 + 10000 for one instruction.
        for inner, many in (("a", 1), ("a<xsl:text/>", 2), (value("''") + "a", 2)):
            short = 20000 - (1 + 100 + 10000 * many)
            for left in (short, short + 1) if short >= 0 else ():
                more = '<xsl:for-each select="//j">{}</xsl:for-each>'
                extra = self.extra(left)
                word = None if left == short else "long"
                self.assertEqual(failed_at_root(body.format(inner) + extra, f"<r>{items}{self.items}</r>"), word)
        self.assertEqual(failed_at_root(body.format("a<x/>"), f"<r>{items}</r>"), "long")

    def extra(self, left):
        """A body that is as much as is left."""
        # A for-each over n nodes with a text is 1 + n.
        self.items = "<j/>" * 4000
        pieces = []
        while left > 4001:
            pieces.append('<xsl:for-each select="//j">a</xsl:for-each>')
            left -= 4001
        return "".join(pieces) + '<xsl:for-each select="//j[position() &lt; ' + str(left) + ']">a</xsl:for-each>'

    def test_what_counts_as_carried_out(self):
        def count(body, more=""):
            """How much a body counts, found by how much can stand ahead of it."""
            low, high = 0, 400
            while high - low > 1:
                middle = (low + high) // 2
                front = self.extra(20000 - middle)
                if failed_at_root(front + body, f"<r>{self.items}</r>", more) == "long":
                    low = middle
                else:
                    high = middle
            return high
        told = {"a": 1, "<x/>": 1, "<x>a<y/></x>": 3, "<xsl:text/>": 1, "<xsl:if test='0'>a</xsl:if>": 1, "<xsl:if test='1'>a</xsl:if>": 2, value("1"): 1,
                "<xsl:choose><xsl:when test='0'>a</xsl:when><xsl:otherwise>b</xsl:otherwise></xsl:choose>": 2, "<xsl:comment>a</xsl:comment>": 2,
                "<xsl:variable name='v'>a</xsl:variable>": 2, "<xsl:variable name='v' select='1'/>": 1, "<x xsl:use-attribute-sets='s'/>": 3,
                '<xsl:call-template name="t"><xsl:with-param name="p">a</xsl:with-param></xsl:call-template>': 3, "<xsl:message>a</xsl:message>": 2,
                apply("r/q"): 1}
        more = "<xsl:attribute-set name='s'><xsl:attribute name='a'>1</xsl:attribute></xsl:attribute-set><xsl:template name='t'><xsl:param name='p'/>b</xsl:template>"
        for body, many in told.items():
            self.assertEqual(count(body, more), many, body)


class Texts(unittest.TestCase):
    def text(self, outputs, body, others=None):
        return run(outputs + rule("/", body), others=others).text

    def test_methods(self):
        body = "a&lt;<x b='c'>d<!----><xsl:comment>e</xsl:comment></x>f"
        self.assertEqual(self.text('<xsl:output method="text"/>', body), "a<df")
        self.assertEqual(self.text("", body), HEAD + 'a&lt;<x b="c">d<!--e--></x>f')
        self.assertEqual(self.text('<xsl:output method="xml"/>', body), HEAD + 'a&lt;<x b="c">d<!--e--></x>f')
        self.assertEqual(self.text('<xsl:output method="text" omit-xml-declaration="no" standalone="yes"/>', body), "a<df")
        self.assertEqual(self.text("", ""), HEAD)

    def test_declarations(self):
        told = {'standalone="yes"': '<?xml version="1.0" standalone="yes"?>\n', 'standalone="no"': '<?xml version="1.0" standalone="no"?>\n', 'omit-xml-declaration="yes"': "",
                'omit-xml-declaration="no"': HEAD, 'omit-xml-declaration="yes" standalone="yes"': "", 'version="9" encoding="x" indent="yes" media-type="y" doctype-system="z" doctype-public="p"': HEAD}
        for settings, found in told.items():
            self.assertEqual(self.text(f"<xsl:output {settings}/>", "<x/>"), found + "<x/>", settings)

    def test_cdata(self):
        told = {"<x>a&lt;&amp;</x>": "<x><![CDATA[a<&]]></x>", "<x>]]&gt;</x>": "<x><![CDATA[]]]]><![CDATA[>]]></x>", "<x>a<y>&lt;</y>b</x>": "<x><![CDATA[a]]><y>&lt;</y><![CDATA[b]]></x>",
                "a&lt;": "a&lt;", "<z>]]&gt;]]&gt;</z>": "<z><![CDATA[]]]]><![CDATA[>]]]]><![CDATA[>]]></z>", "<x/>": "<x/>", "<x b='&lt;'/>": '<x b="&lt;"/>', "<x>]]]&gt;</x>": "<x><![CDATA[]]]]]><![CDATA[>]]></x>"}
        for body, found in told.items():
            self.assertEqual(self.text('<xsl:output cdata-section-elements="x a:z"/><xsl:output cdata-section-elements=" z "/>', body), HEAD + found, body)

    def test_several(self):
        others = {"i": sheet('<xsl:output method="text" standalone="no" cdata-section-elements="x"/>'), "j": sheet('<xsl:output standalone="yes" cdata-section-elements="y"/>')}
        head = '<xsl:import href="i"/><xsl:import href="j"/>'
        body = "<x>a</x><y>b</y><z>c</z>"
        self.assertEqual(self.text(head, body, others), "abc")
        front = '<?xml version="1.0" standalone="yes"?>\n'
        self.assertEqual(self.text(head + '<xsl:output method="xml" cdata-section-elements="z"/>', body, others), front + "<x><![CDATA[a]]></x><y><![CDATA[b]]></y><z><![CDATA[c]]></z>")
        self.assertEqual(self.text('<xsl:output standalone="yes"/><xsl:output method="xml"/><xsl:output standalone="no"/>', "<x/>"), '<?xml version="1.0" standalone="no"?>\n<x/>')
        self.assertEqual(self.text('<xsl:import href="j"/><xsl:import href="i"/>' + '<xsl:output method="xml"/>', "<x/>", others), '<?xml version="1.0" standalone="no"?>\n<x/>')


if __name__ == "__main__":
    unittest.main()
