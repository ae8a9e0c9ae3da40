"""[7.2] to [7.8], [6.7] to [6.9]: rules, modes, templates, params and variables."""

import unittest

from tests.made_results import apply, at_root, failed, failed_at_root, made, rule, run, value
from tests.sheet_shown import sheet

TEXT = '<xsl:output method="text"/>'
DOCUMENT = "<r a='1'>x<b c='2'>y<!--k--></b><?p q?>z</r>"


class BuiltIn(unittest.TestCase):
    def test_each_kind(self):
        self.assertEqual(made(TEXT, DOCUMENT), "xyz")
        self.assertEqual(made(TEXT + rule("/", apply("//@*")), DOCUMENT), "12")
        self.assertEqual(made(TEXT + rule("/", apply("//comment() | //processing-instruction()")), DOCUMENT), "")
        # A template that processes the root again never ends.
        self.assertEqual(failed(TEXT + rule("/", apply("/")), DOCUMENT), "deep")
        self.assertEqual(made("", DOCUMENT), "xyz")

    def test_modes_stay_and_params_go(self):
        inner = rule("/", apply("r", ' mode="m"', '<xsl:with-param name="p" select="1"/>')) + rule("b", "no") + rule(
            "b", '<xsl:param name="p" select="7"/>' + value("$p"), ' mode="m"') + rule("text()", "t", ' mode="m"')
        self.assertEqual(made(inner, DOCUMENT), "t7t")


class Choosing(unittest.TestCase):
    def test_priorities(self):
        told = [
            ([("a", "1", ""), ("*", "2", "")], "1"), ([("a[1]", "1", ""), ("a", "2", "")], "1"), ([("a", "1", ""), ("a", "2", "")], "2"),
            ([("a", "1", ' priority="1"'), ("a[1]", "2", "")], "1"), ([("a", "1", ' priority="-1"'), ("node()", "2", "")], "2"),
            ([("r/a", "1", ""), ("a", "2", ' priority="0.5"')], "2"), ([("r/a", "1", ""), ("a", "2", ' priority="0.499"')], "1"),
            ([("a | *", "1", ""), ("a", "2", "")], "2"), ([("a", "2", ""), ("* | a", "1", "")], "1"), ([("//a", "1", ""), ("a", "2", "")], "1"),
            ([("*", "1", ""), ("node()", "2", "")], "2"), ([("a", "1", ""), ("a | b", "2", ' priority="-9"')], "1"),
            ([("a", "1", ' priority=".5"'), ("a[true()]", "2", "")], "2"), ([("a", "1", ' priority="5."'), ("a", "2", ' priority="4.9"')], "1"),
        ]
        for rules, found in told:
            inner = "".join(rule(match, body, more) for match, body, more in rules)
            self.assertEqual(made(inner + rule("r", apply("a")), "<r><a/></r>"), found, rules)

    def test_modes(self):
        inner = rule("/", apply("r") + apply("r", ' mode="m"') + apply("r", ' mode="n:o"')) + rule("r", "1") + rule("r", "2", ' mode="m"') + rule(
            "r", "3", ' mode="n:o"') + rule("*", "4", ' mode="m" priority="-3"')
        self.assertEqual(made(inner), "123")
        # A mode does not reach into an apply-templates that names none.
        inner = rule("/", apply("r", ' mode="m"')) + rule("r", apply(), ' mode="m"') + rule("a", "1") + rule("a", "2", ' mode="m"')
        self.assertEqual(made(inner, "<r><a/></r>"), "1")

    def test_each_kind_of_node(self):
        inner = (rule("/", "/" + apply("//node() | //@*")) + rule("*", "*") + rule("@*", "@") + rule("text()", "t") + rule("comment()", "c")
                 + rule("processing-instruction()", "p") + rule("processing-instruction('q')", "q"))
        self.assertEqual(made(inner, "<r a='1'>x<!--k--><?p q?><?q?></r>"), "/*@tcpq")

    def test_patterns_like_paths(self):
        document = "<r><a><b i='1'/><b i='2'/></a><c><b i='3' id='k'/><a><d><b i='4'/></d></a></c></r>"
        for pattern, found in (("b", "1234"), ("a/b", "12"), ("a//b", "124"), ("/r//b", "1234"), ("r/*/b", "123"), ("//a/b[2]", "2"), ("b[2]", "2"),
                               ("b[last()]", "234"), ("/r/c/b", "3"), ("/b", ""), ("id('k')", "3"), ("id('k') | d/b", "34"), ("a//d//b", "4"),
                               ("*[b][2]/b", "3"), ("b[@i > 2]", "34"), ("a[b]//b", "12"), ("c//a//b", "4"), ("key('k', '2')", "2"),
                               ("key('r', 'r')//a/b", "12"), ("b[@i = 4 or position() = 1]", "134"), ("*/*/*/*/b", "4"), ("node()", "1234")):
            inner = rule("/", apply("//b")) + rule("*", "") + rule(pattern, value("@i"), ' priority="2"')
            keys = '<xsl:key name="k" match="b" use="@i"/><xsl:key name="r" match="*" use="name()"/>'
            self.assertEqual(made(inner + keys, document), found, pattern)

    def test_attributes_and_roots(self):
        inner = rule("/", apply("//@*")) + rule("@a", "1") + rule("b/@*", "2", ' priority="1"') + rule("@node()", "3", ' priority="-1"')
        self.assertEqual(made(inner, "<r a='' c=''><b a='' d=''/></r>"), "1322")

    def test_apply_imports(self):
        others = {"i": sheet(rule("a", "i(" + apply() + ")") + rule("b", "ib" + value("position()"))),
                  "j": sheet('<xsl:import href="k"/>' + rule("a", "j")), "k": sheet(rule("c", "k") + rule("b", "kb"))}
        head = '<xsl:import href="i"/><xsl:import href="j"/>'
        told = {"a": "j", "b": "kb", "c": "k", "d": "t"}
        for name, found in told.items():
            inner = head + rule("*[not(self::r)]", "[<xsl:apply-imports/>]")
            self.assertEqual(made(inner, f"<r><{name}>t</{name}></r>", others=others), f"[{found}]")

    def test_what_is_imported_by_others(self):
        # Only what the module of the current rule imports counts.
        others = {"i": sheet('<xsl:import href="h"/>' + rule("a", "i[<xsl:apply-imports/>]")), "h": sheet(rule("a", "h")),
                  "g": sheet(rule("a", "g"))}
        head = '<xsl:import href="g"/><xsl:import href="i"/>'
        self.assertEqual(made(head, "<a/>", others=others), "i[h]")
        self.assertEqual(made(head + rule("a", "m[<xsl:apply-imports/>]"), "<a/>", others=others), "m[i[h]]")
        self.assertEqual(made('<xsl:import href="i"/><xsl:import href="g"/>' + rule("a", "m[<xsl:apply-imports/>]"), "<a/>", others=others), "m[g]")

    def test_imports_and_includes(self):
        # What is included has the imports of where it is included.
        others = {"n": sheet(rule("a", "n[<xsl:apply-imports/>]")), "i": sheet(rule("a", "i")), "o": sheet('<xsl:import href="i"/>')}
        self.assertEqual(made('<xsl:import href="i"/><xsl:include href="n"/>', "<a/>", others=others), "n[i]")
        self.assertEqual(made('<xsl:include href="n"/><xsl:include href="o"/>', "<a/>", others=others), "n[i]")
        self.assertEqual(made('<xsl:include href="n"/>' + rule("a", "m"), "<a/>", others=others), "m")
        self.assertEqual(made(rule("a", "m") + '<xsl:include href="n"/>', "<a>t</a>", others=others), "n[t]")

    def test_apply_imports_keeps_list_and_mode(self):
        others = {"i": sheet(rule("a", value("concat(position(), '/', last())") + apply(), ' mode="m"') + rule("b", "no") + rule("b", "m", ' mode="m"'))}
        inner = ('<xsl:import href="i"/>' + rule("/", apply("r/a", ' mode="m"')) + rule("a", "<xsl:apply-imports/>", ' mode="m"')
                 + rule("b", "none", ""))
        self.assertEqual(made(inner, "<r><a/><a><b/></a></r>", others=others), "1/22/2none")
        inner = '<xsl:import href="e"/>' + rule("/", apply("r", ' mode="m"')) + rule("r", "<xsl:apply-imports/>", ' mode="m"') + rule("b", "m", ' mode="m"') + rule("b", "0")
        self.assertEqual(made(inner, "<r><b/></r>", others={"e": sheet("")}), "m")

    def test_no_current_rule(self):
        for body in ('<xsl:for-each select="r"><xsl:apply-imports/></xsl:for-each>', value("$v"), '<x xsl:use-attribute-sets="s"/>',
                     '<xsl:for-each select="r"><xsl:call-template name="n"/></xsl:for-each>'):
            more = ('<xsl:variable name="v"><xsl:apply-imports/></xsl:variable><xsl:attribute-set name="s"><xsl:attribute name="a"><xsl:apply-imports/>'
                    '</xsl:attribute></xsl:attribute-set><xsl:template name="n"><xsl:apply-imports/></xsl:template>')
            self.assertEqual(failed_at_root(body, more=more), "rule", body)
        more = '<xsl:template name="n"><xsl:apply-imports/></xsl:template>'
        self.assertEqual(made(rule("r", '[<xsl:call-template name="n"/>]') + more, "<r>t</r>"), "[t]")
        self.assertEqual(made(rule("r", '<xsl:variable name="v"><xsl:apply-imports/></xsl:variable><xsl:if test="1">[<xsl:apply-imports/>]</xsl:if>'), "<r>t</r>"), "[t]")
        self.assertEqual(made(rule("r", '<xsl:for-each select="."/>[<xsl:apply-imports/>]'), "<r>t</r>"), "[t]")


class Lists(unittest.TestCase):
    def test_position_and_last(self):
        both = value("concat(position(), '/', last(), ' ')")
        document = "<r><a/>x<b/><a/></r>"
        self.assertEqual(made(rule("r", apply("a")) + rule("a", both), document), "1/2 2/2 ")
        self.assertEqual(made(rule("a", both), document), "1/4 x4/4 ")
        self.assertEqual(at_root(f'<xsl:for-each select="r/*">{both}</xsl:for-each>', document), "1/3 2/3 3/3 ")
        self.assertEqual(at_root(both, document), "1/1 ")
        self.assertEqual(made(rule("r", apply("a")) + rule("a", '<xsl:call-template name="t"/>') + rule("q", both, ' name="t"'), document), "1/2 2/2 ")
        self.assertEqual(at_root(f'<xsl:for-each select="r/a"><xsl:if test="position() = 2"><x>{both}</x></xsl:if></xsl:for-each>', document), "<x>2/2 </x>")

    def test_current(self):
        document = "<r><a i='1'/><a i='2'/><b i='2'/></r>"
        body = '<xsl:for-each select="r/a">' + value("count(//*[@i = current()/@i])") + "</xsl:for-each>" + value("name(current())")
        self.assertEqual(at_root(body, document), "12")

    def test_order_of_selected_nodes(self):
        self.assertEqual(made(rule("/", apply("//b | //a")) + rule("*", value("name()")), "<r><a/><b/><a/></r>"), "aba")
        self.assertEqual(made(rule("a[3]", apply("preceding-sibling::*")) + rule("a", value("@i")) + rule("r", apply("a[3]")),
                              "<r><a i='1'/><a i='2'/><a/></r>"), "12")

    def test_no_nodes(self):
        for path in ("1", "'a'", "true()", "$f"):
            more = '<xsl:variable name="f"><x/></xsl:variable>'
            self.assertEqual(failed_at_root(apply(path), more=more), "nodes")
            self.assertEqual(failed_at_root(f'<xsl:for-each select="{path}"/>', more=more), "nodes")


class Params(unittest.TestCase):
    def call(self, params, given, body=None):
        body = body or value("concat($p, '-', $q)")
        return at_root(f'<xsl:call-template name="t">{given}</xsl:call-template>', more=f'<xsl:template name="t">{params}{body}</xsl:template>')

    def test_handed_on_and_defaults(self):
        params = '<xsl:param name="p" select="1"/><xsl:param name="q" select="$p + 1"/>'
        one, two = '<xsl:with-param name="p" select="5"/>', '<xsl:with-param name="q" select="9"/>'
        self.assertEqual(self.call(params, ""), "1-2")
        self.assertEqual(self.call(params, one), "5-6")
        self.assertEqual(self.call(params, two), "1-9")
        self.assertEqual(self.call(params, two + one), "5-9")
        self.assertEqual(self.call(params, one + '<xsl:with-param name="p">7</xsl:with-param>'), "7-8")
        self.assertEqual(self.call(params, '<xsl:with-param name="x" select="1"/>' + two), "1-9")
        self.assertEqual(self.call('<xsl:param name="p"/><xsl:param name="q">x<xsl:value-of select="$p"/></xsl:param>', ""), "-x")
        self.assertEqual(self.call(params, '<xsl:with-param name="p"/>'), "-NaN")

    def test_with_apply_templates(self):
        given = '<xsl:with-param name="p" select="name()"/>'
        inner = rule("r", apply("*", "", given)) + rule("a", '<xsl:param name="p" select="0"/>' + value("$p") + apply("b")) + rule(
            "b", '<xsl:param name="p" select="0"/>' + value("$p"))
        self.assertEqual(made(inner, "<r><a><b/></a><b/></r>"), "r0r")

    def test_evaluated_where_they_stand(self):
        given = '<xsl:with-param name="p" select="position()"/><xsl:with-param name="q"><xsl:value-of select="last()"/></xsl:with-param>'
        body = f'<xsl:for-each select="r/a"><xsl:call-template name="t">{given}</xsl:call-template></xsl:for-each>'
        more = '<xsl:template name="t"><xsl:param name="p"/><xsl:param name="q"/>' + value("concat($p, $q, ' ')") + "</xsl:template>"
        self.assertEqual(at_root(body, "<r><a/><a/></r>", more), "12 22 ")

    def test_each_sort_of_value(self):
        for path, found in (("r", "true"), ("r/x", "false"), ("'x'", "true"), ("''", "false"), ("0", "false"), ("2 = 2", "true")):
            body = f'<xsl:variable name="v" select="{path}"/>' + value("boolean($v)")
            self.assertEqual(at_root(body), found)
        self.assertEqual(at_root('<xsl:variable name="v" select="r/*"/>' + value("count($v)") + value("name($v[2])"), "<r><a/><b/></r>"), "2b")


class Fragments(unittest.TestCase):
    FRAGMENT = '<xsl:variable name="f"><a>1</a>2<b x="y"><c>3</c></b></xsl:variable><xsl:variable name="e"><x/></xsl:variable>'

    def test_as_values(self):
        told = {"$f": "123", "string($f)": "123", "$f + 1": "124", "$f = 123": "true", "$f = '123'": "true", "$f != '123'": "false",
                "boolean($e)": "true", "not($e)": "false", "$e = ''": "true", "$e = true()": "true", "$f = r": "true", "$f != r": "false", "r = $f": "true",
                "$f > 122": "true", "122 < $f": "true", "$f = $f": "true", "$f != $f": "false", "$f > r": "false", "$f >= r": "true", "concat($f, '!')": "123!",
                "string-length($e)": "0", "number($e)": "NaN", "$e or false()": "true", "-$f": "-123", "$e = false()": "false", "$f != $e": "true",
                "count(id($f))": "0", "sum(r[$e])": "123", "count(r[$e][$f])": "1", "$e < true()": "false", "$e >= true()": "true", "$e = nothing": "false",
                "$e != nothing": "false", "substring($f, 2)": "23"}
        for path, found in told.items():
            self.assertEqual(at_root(self.FRAGMENT + value(path.replace("<", "&lt;")), "<r>123</r>"), found, path)

    def test_as_nodes(self):
        for path in ("$f/a", "$f[1]", "count($f)", "$f | r", "r | $f", "name($f)", "sum($f)", "generate-id($f)", "local-name($f)", "$f//a"):
            self.assertEqual(failed_at_root(self.FRAGMENT + value(path)), "nodes", path)

    def test_copied(self):
        self.assertEqual(at_root(self.FRAGMENT + '<q><xsl:copy-of select="$f"/></q>'), '<q><a>1</a>2<b x="y"><c>3</c></b></q>')
        self.assertEqual(at_root(self.FRAGMENT + '<q><xsl:copy-of select="string($f)"/></q>'), "<q>123</q>")
        self.assertEqual(at_root('<xsl:variable name="f"><xsl:attribute name="a">1</xsl:attribute></xsl:variable><q><xsl:copy-of select="$f"/></q>'), "<q/>")

    def test_empty(self):
        for inner in ("", "<!--c-->", "\n "):
            self.assertEqual(at_root(f'<xsl:variable name="v">{inner}</xsl:variable>' + value("boolean($v)")), "false")
        self.assertEqual(at_root('<xsl:variable name="v" xml:space="preserve"> </xsl:variable>' + value("boolean($v)")), "true")
        self.assertEqual(at_root('<xsl:variable name="v"><xsl:text/></xsl:variable>' + value("boolean($v)")), "true")


class Scope(unittest.TestCase):
    def test_hiding(self):
        more = '<xsl:variable name="v" select="1"/>'
        self.assertEqual(at_root(value("$v") + '<xsl:variable name="v" select="2"/>' + value("$v"), more=more), "12")
        self.assertEqual(at_root('<xsl:if test="1"><xsl:variable name="v" select="2"/>' + value("$v") + "</xsl:if>" + value("$v"), more=more), "21")
        body = '<xsl:for-each select="r/a">' + value("$v") + '<xsl:variable name="v" select="position() + 5"/>' + value("$v") + "</xsl:for-each>" + value("$v")
        self.assertEqual(at_root(body, "<r><a/><a/></r>", more), "16171")
        self.assertEqual(at_root('<x><xsl:variable name="v" select="2"/></x><y>' + value("$v") + "</y>", more=more), "<x/><y>1</y>")
        # A template sees its own variables alone.
        self.assertEqual(at_root('<xsl:variable name="v" select="2"/><xsl:call-template name="t"/>' + value("$v"), more=more + '<xsl:template name="t">' + value("$v") + "</xsl:template>"), "12")

    def test_inner_bodies_see_outer_variables(self):
        body = '<xsl:variable name="v" select="1"/><x><xsl:if test="$v"><xsl:for-each select="r"><xsl:variable name="w">' + value("$v + 1") + "</xsl:variable>" + value("$w") + (
            "</xsl:for-each></xsl:if></x>")
        self.assertEqual(at_root(body), "<x>2</x>")

    def test_named_templates_and_globals_of_higher_precedence(self):
        others = {"i": sheet('<xsl:variable name="v" select="1"/><xsl:template name="t">i</xsl:template><xsl:param name="p" select="1"/>'), "j": sheet('<xsl:variable name="v" select="3"/>')}
        head = '<xsl:import href="i"/>'
        self.assertEqual(made(head + '<xsl:variable name="v" select="2"/>' + rule("/", value("$v") + '<xsl:call-template name="t"/>'), others=others), "2i")
        self.assertEqual(made(head + '<xsl:import href="j"/>' + rule("/", value("$v")), others=others), "3")
        self.assertEqual(made('<xsl:import href="j"/>' + head + rule("/", value("$v") + '<xsl:call-template name="t"/>') + '<xsl:template name="t">m</xsl:template>', others=others), "1m")
        # A param that is hidden by a variable takes nothing.
        self.assertEqual(made(head + '<xsl:variable name="p" select="2"/>' + rule("/", value("$p")), others=others, params={"p": "x"}), "2")


class Globals(unittest.TestCase):
    def test_any_order(self):
        inner = '<xsl:variable name="a" select="$b + 1"/><xsl:variable name="b" select="$c + 1"/><xsl:variable name="c">1</xsl:variable>'
        self.assertEqual(made(inner + rule("/", value("$a")) + '<xsl:variable name="d" select="1"/>'), "3")

    def test_context(self):
        inner = '<xsl:variable name="a" select="name(*)"/><xsl:variable name="b"><xsl:for-each select="//c">' + value("position()") + "</xsl:for-each></xsl:variable>" + (
            '<xsl:variable name="c" select="position() + last()"/><xsl:variable name="d" select="count(current()/r)"/>')
        self.assertEqual(made(inner + rule("c", value("concat($a, $b, $c, $d)")), "<r><c/><c/></r>"), "r1221r1221")

    def test_params(self):
        inner = '<xsl:param name="p" select="7"/><xsl:param name="q">x</xsl:param><xsl:param name="n:r"/>' + rule("/", value("concat($p, $q, $n:r)"))
        self.assertEqual(made(inner), "7x")
        self.assertEqual(made(inner, params={}), "7x")
        self.assertEqual(made(inner, params={"p": "1", "n:r": "<", "unknown": "z"}), "1x&lt;")
        self.assertEqual(made(inner, params={"q": "", "p": "\u00e9"}), "\u00e9")
        self.assertEqual(made('<xsl:param name="p" select="7"/>' + rule("/", value("$p + 1")), params={"p": "3"}), "4")
        self.assertEqual(made('<xsl:param name="p" select="r"/>' + rule("/", value("$p = 'x'")), params={"p": "x"}), "true")
        self.assertEqual(made('<xsl:variable name="p" select="7"/>' + rule("/", value("$p")), params={"p": "3"}), "7")
        # A failing default is not evaluated if there is a value.
        self.assertEqual(made('<xsl:param name="p" select="count(1)"/>' + rule("/", value("$p")), params={"p": "3"}), "3")

    def test_unused_ones_do_nothing(self):
        inner = '<xsl:variable name="a" select="count(1)"/><xsl:variable name="b"><xsl:message>m</xsl:message></xsl:variable><xsl:variable name="c"><xsl:message>n</xsl:message>1</xsl:variable>'
        result = run(inner + rule("/", value("$c + $c")))
        self.assertEqual((result.text[22:], result.messages), ("2", ["n"]))
        self.assertEqual(run(inner + rule("/", value("true() or $a"))).text[22:], "true")
        self.assertEqual(failed(inner + rule("/", value("$a"))), "nodes")

    def test_evaluated_at_their_first_use(self):
        inner = '<xsl:variable name="c"><xsl:message>c</xsl:message></xsl:variable>'
        body = '<xsl:message>a</xsl:message><x a="{$c}"><xsl:message>b</xsl:message>' + value("$c") + "</x>"
        self.assertEqual(run(inner + rule("/", body)).messages, ["a", "c", "b"])

    def test_circles(self):
        for inner in ('<xsl:variable name="v"><xsl:call-template name="t"/></xsl:variable><xsl:template name="t">' + value("$v") + "</xsl:template>",
                      '<xsl:variable name="v"><xsl:apply-templates select="r"/></xsl:variable>' + rule("r", '<xsl:if test="$w"/>') + '<xsl:variable name="w" select="$v"/>'):
            self.assertEqual(failed(inner + rule("/", value("$v"))), "circle")

    def test_long_chains(self):
        rows = [f'<xsl:variable name="v{at}" select="$v{at + 1} + 1"/>' for at in range(600)] + ['<xsl:variable name="v600" select="0"/>']
        self.assertEqual(made("".join(rows) + rule("/", value("$v0"))), "600")
        rows = [f'<xsl:variable name="v{at}">' + value(f"$v{at + 1} + 1") + "</xsl:variable>" for at in range(98)] + ['<xsl:variable name="v98" select="0"/>']
        self.assertEqual(made("".join(rows) + rule("/", value("$v0"))), "98")
        rows.insert(0, '<xsl:variable name="w">' + value("$v0") + "</xsl:variable>")
        self.assertEqual(made("".join(rows) + rule("/", value("$w"))), "98")
        rows.insert(0, '<xsl:variable name="x">' + value("$w") + "</xsl:variable>")
        self.assertEqual(failed("".join(rows) + rule("/", value("$x"))), "deep")

    def test_used_in_each_place(self):
        inner = '<xsl:variable name="v"><xsl:message>m</xsl:message>1</xsl:variable><xsl:variable name="n" select="r/a"/>'
        bodies = [value("$v"), '<x a="{$v}"/>', '<xsl:if test="$v">1</xsl:if>', '<xsl:for-each select="$n[$v]">1</xsl:for-each>', apply("$n[$v = 1]"),
                  '<xsl:choose><xsl:when test="$v = 2"/><xsl:when test="$v = 1">1</xsl:when></xsl:choose>', '<xsl:copy-of select="$v"/>',
                  '<xsl:element name="x{$v}"><xsl:attribute name="y{$v}"/></xsl:element>', '<xsl:processing-instruction name="p{$v}"/>',
                  '<xsl:for-each select="$n"><xsl:sort select="$v"/>1</xsl:for-each>', apply("$n", "", '<xsl:with-param name="p" select="$v"/>'),
                  apply("$n", "", '<xsl:sort order="{substring(\'ascending\', $v)}"/>'), '<xsl:variable name="w" select="$v"/>' + value("$w"),
                  '<xsl:call-template name="t"/>', '<x xsl:use-attribute-sets="s" z="{$v}"/>', '<xsl:for-each select="r"><xsl:copy use-attribute-sets="s"/></xsl:for-each>']
        more = '<xsl:template name="t"><xsl:param name="p" select="$v"/>' + value("$p") + '</xsl:template><xsl:attribute-set name="s"><xsl:attribute name="b{$v}">' + value(
            "$v") + "</xsl:attribute></xsl:attribute-set>" + rule("a", "1")
        for body in bodies:
            result = run(inner + more + rule("/", body), "<r><a/></r>")
            self.assertEqual(result.messages, ["m"], body)
            self.assertIn("1", result.text[22:])


class Choices(unittest.TestCase):
    def test_if(self):
        for test, found in (("1", "x"), ("0", ""), ("r", "x"), ("q", ""), ("''", ""), ("'0'", "x"), ("0 div 0", "")):
            self.assertEqual(at_root(f'<xsl:if test="{test}">x</xsl:if>'), found)

    def test_choose(self):
        ways = '<xsl:when test="r = 1">1</xsl:when><xsl:when test="r &lt; 3">2</xsl:when>'
        for text, found, other in (("1", "1", "1"), ("2", "2", "2"), ("3", "", "o")):
            self.assertEqual(at_root(f"<xsl:choose>{ways}</xsl:choose>", f"<r>{text}</r>"), found)
            self.assertEqual(at_root(f"<xsl:choose>{ways}<xsl:otherwise>o</xsl:otherwise></xsl:choose>", f"<r>{text}</r>"), other)
        self.assertEqual(at_root('<xsl:choose><xsl:when test="1">1</xsl:when><xsl:when test="count(1)">2</xsl:when></xsl:choose>'), "1")
        self.assertEqual(failed_at_root('<xsl:choose><xsl:when test="0">1</xsl:when><xsl:when test="count(1)">2</xsl:when></xsl:choose>'), "nodes")

    def test_messages(self):
        body = '<xsl:message>a<x b="c">d<!--e--></x>' + value("1 + 1") + '<xsl:comment>f</xsl:comment><xsl:attribute name="g">h</xsl:attribute></xsl:message>'
        result = run(rule("/", body + '<xsl:message/><xsl:message terminate="no">z</xsl:message>'))
        self.assertEqual((result.messages, result.text), (["ad2", "", "z"], '<?xml version="1.0"?>\n'))
        self.assertEqual(failed_at_root('<xsl:message terminate="yes">z</xsl:message>'), "stop")
        self.assertEqual(run(rule("/", '<xsl:message>1<xsl:message>2</xsl:message>3</xsl:message>')).messages, ["2", "13"])
        self.assertEqual(failed_at_root('<xsl:message terminate="yes">' + value("count(1)") + "</xsl:message>"), "nodes")

    def test_value_of(self):
        for path, found in (("r", "xy"), ("//b", "y"), ("q", ""), ("1.50", "1.5"), ("1 = 1", "true"), ("'&lt;&amp;'", "&lt;&amp;"), ("1 div 0", "Infinity")):
            self.assertEqual(at_root(value(path), "<r>x<b>y</b></r>"), found)


if __name__ == "__main__":
    unittest.main()
