"""[6.7] to [6.9], [6.11], [6.12]: several modules, precedence, names, scope, and the rows of stylesheets."""

import random
import unittest

from pathloom.sheets import Sheet
from tests.sheet_shown import body_fault, fault, sheet, template, top_fault


def imported(*names):
    return "".join(f'<xsl:import href="{name}"/>' for name in names)


def included(*names):
    return "".join(f'<xsl:include href="{name}"/>' for name in names)


def rule(match):
    return f'<xsl:template match="{match}"/>'


def variable(name, inner="", more="", word="variable"):
    return f'<xsl:{word} name="{name}" {more}>{inner}</xsl:{word}>'


def rows(main, others=None):
    """The patterns of the rules with their precedence."""
    return [(row[0].replace("child::", ""), row[3]) for row in Sheet(main, others).rule_rows()]


class Precedence(unittest.TestCase):
    def test_imports_and_includes(self):
        others = {"A": sheet(rule("a")), "B": sheet(imported("A") + rule("b")), "C": sheet(included("A") + rule("c"))}
        self.assertEqual(rows(sheet(imported("A", "B") + rule("m")), others), [("a", 0), ("a", 1), ("b", 2), ("m", 3)])
        self.assertEqual(rows(sheet(imported("A") + rule("m") + included("B") + rule("n")), others),
                         [("a", 0), ("a", 1), ("m", 2), ("b", 2), ("n", 2)])
        self.assertEqual(rows(sheet(included("C", "C")), others), [("a", 0), ("c", 0), ("a", 0), ("c", 0)])
        self.assertEqual(rows(sheet(imported("C") + included("A")), others), [("a", 0), ("c", 0), ("a", 1)])

    def test_imports_of_what_is_included_come_behind(self):
        others = {"i": sheet(imported("x") + included("j") + rule("i")), "j": sheet(imported("y") + rule("j")),
                  "k": sheet(imported("z") + rule("k")), **{name: sheet(rule(name)) for name in "wxyz"}}
        main = sheet(imported("w") + included("i", "k") + rule("m"))
        self.assertEqual(rows(main, others), [("w", 0), ("x", 1), ("y", 2), ("z", 3), ("j", 4), ("i", 4), ("k", 4), ("m", 4)])

    def test_simplified_modules(self):
        others = {"s": "<a xsl:version='1.0'/>"}
        main = sheet(imported("s") + included("s") + rule("m"))
        found = Sheet(main, others).rule_rows()
        self.assertEqual(found, [("/", None, "0.5", 0, ("s", (0,))), ("/", None, "0.5", 1, ("s", (0,))),
                                 ("child::m", None, "0", 1, ("", (0, 2)))])

    def test_like_the_post_order(self):
        choices = random.Random(21)
        for _ in range(200):
            names = [f"m{at}" for at in range(6)]
            inner = {}
            for at, name in enumerate(names):
                later = names[at + 1:]
                inner[name] = ([choices.choice(later) for _ in range(choices.choice([0, 1, 2]))] if later else [],
                               [choices.choice(later) for _ in range(choices.choice([0, 0, 1]))] if later else [])
            texts = {name: sheet(imported(*inner[name][0]) + included(*inner[name][1]) + rule(name)) for name in names}

            def group(name):
                """The rules of a module with what it includes, and the modules that they import."""
                own, imports = [], list(inner[name][0])
                for other in inner[name][1]:
                    more, further = group(other)
                    own += more
                    imports += further
                return own + [name], imports

            def post_order(name):
                own, imports = group(name)
                return [one for other in imports for one in post_order(other)] + [own]

            told = [(one, at) for at, own in enumerate(post_order("m0")) for one in own]
            self.assertEqual(rows(texts["m0"], texts), told)

    def test_many_modules_in_a_row(self):
        for word in (imported, included):
            others = {f"m{at}": sheet(word(f"m{at + 1}") + rule("a")) for at in range(100)}
            others["m100"] = sheet(rule("b"))
            self.assertEqual(len(rows(sheet(word("m0")), others)), 101)
        many = {"m": sheet(rule("a"))}
        self.assertEqual(rows(sheet(imported(*["m"] * 100)), many), [("a", at) for at in range(100)])


class Files(unittest.TestCase):
    def test_href(self):
        self.assertEqual(top_fault(imported("q")), ((0, 0), "href"))
        self.assertEqual(top_fault(included("q"), {"Q": sheet("")}), ((0, 0), "href"))
        self.assertEqual(top_fault(included("i"), {"i": sheet(rule("a") + included("q"))}), (("i", (0, 1)), "href"))

    def test_cycle(self):
        self.assertEqual(top_fault(imported("")), ((0, 0), "cycle"))
        self.assertEqual(top_fault(included(""), {"": sheet("")}), ((0, 0), "cycle"))
        others = {"a": sheet(imported("b")), "b": sheet(included("a")), "c": sheet(included("")), "d": sheet(imported("d"))}
        self.assertEqual(top_fault(imported("a"), others), (("b", (0, 0)), "cycle"))
        self.assertEqual(top_fault(imported("c"), others), (("c", (0, 0)), "cycle"))
        self.assertEqual(top_fault(included("d"), others), (("d", (0, 0)), "cycle"))
        self.assertIsNone(top_fault(imported("e", "e") + included("e"), {"e": sheet("")}))

    def test_faults_of_other_modules(self):
        told = {"<a>": ((), "document"), "<a/>": ((0,), "version"), sheet("x"): ((0, 0), "text"),
                sheet(template("<b c='{'/>")): ((0, 0, 0), "path"), "<!--c--><xsl:x/>": ((1,), "version")}
        for text, (place, word) in told.items():
            self.assertEqual(top_fault(imported("m"), {"m": text}), (("m", place), word))
            self.assertEqual(top_fault(included("i"), {"i": sheet(imported("m")), "m": text}), (("m", place), word))
        self.assertIsNone(top_fault("", {"m": "<a>"}))

    def test_imports_stand_first(self):
        others = {"e": sheet("")}
        for ahead in (rule("a"), included("e"), "<xsl:output/>"):
            self.assertEqual(top_fault(ahead + imported("e"), others), ((0, 1), "element"))
        self.assertIsNone(top_fault("<x:y/>" + imported("e") + "<!--c-->" + imported("e"), others))

    def test_modules_are_read_when_they_are_met(self):
        wrong = {"m": sheet("x")}
        self.assertEqual(top_fault("<xsl:nothing/>" + included("m"), wrong), ((0, 0), "element"))
        self.assertEqual(top_fault(included("m") + "<xsl:nothing/>", wrong), (("m", (0, 0)), "text"))
        self.assertEqual(top_fault(imported("m") + included("q"), wrong), (("m", (0, 0)), "text"))
        self.assertEqual(top_fault('<xsl:include href="m" x=""/>', wrong), ((0, 0), "attribute"))
        self.assertEqual(top_fault('<xsl:include href="m">x</xsl:include>', wrong), ((0, 0, 0), "text"))

    def test_later_changes_have_no_effect(self):
        others = {"m": sheet(rule("a"))}
        made = Sheet(sheet(imported("m")), others)
        others["m"] = "x"
        others.clear()
        self.assertEqual(made.rule_rows(), [("child::a", None, "0", 0, ("m", (0, 0)))])
        self.assertEqual(others, {})


class Names(unittest.TestCase):
    def test_two_of_one_name(self):
        named, pair = template(""), {"m": sheet(template("") + variable("v"))}
        self.assertEqual(top_fault(named + named), ((0, 1), "twice"))
        self.assertEqual(top_fault(named + included("m"), pair), (("m", (0, 0)), "twice"))
        self.assertEqual(top_fault(included("m") + named, pair), ((0, 1), "twice"))
        self.assertIsNone(top_fault(imported("m") + named, pair))
        self.assertIsNone(top_fault(imported("m", "m"), pair))
        self.assertEqual(top_fault(included("m", "m"), pair), (("m", (0, 0)), "twice"))
        for one in ("variable", "param"):
            for other in ("variable", "param"):
                self.assertEqual(top_fault(variable("v", word=one) + variable("v", word=other)), ((0, 1), "twice"))
        self.assertIsNone(top_fault(template("", 'name="v"') + variable("v") + '<xsl:attribute-set name="v"/>'
                                    '<xsl:attribute-set name="v"/><xsl:key name="v" match="a" use="b"/>'
                                    '<xsl:key name="v" match="a" use="b"/><xsl:output/><xsl:output/>'))
        low = {"m": sheet(imported("n") + variable("v")), "n": sheet(variable("v") + variable("v"))}
        self.assertEqual(top_fault(imported("m") + variable("v"), low), (("n", (0, 1)), "twice"))

    def test_hiding(self):
        told = {
            variable("x") + variable("x"): (1,), variable("x") + "<b>" + variable("x") + "</b>": (1, 0),
            "<b>" + variable("x") + "</b>" + variable("x"): None, variable("g"): None,
            variable("g") + variable("g"): (1,), variable("x", variable("x")): None,
            variable("x", variable("y")) + variable("y"): None, variable("y") + variable("x", variable("y")): (1, 0),
            variable("p", word="param") + variable("p", word="param"): (1,),
            variable("p", word="param") + variable("p"): (1,), variable("p", word="param") + variable("q", variable("p"), word="param"): (1, 0),
            variable("x") + '<xsl:for-each select="a"><xsl:sort/>' + variable("x") + "</xsl:for-each>": (1, 1),
            variable("x") + '<xsl:call-template name="t"><xsl:with-param name="x"/></xsl:call-template>': None,
            variable("x") + '<xsl:call-template name="t"><xsl:with-param name="y">' + variable("x") + "</xsl:with-param></xsl:call-template>":
            (1, 0, 0),
            '<xsl:if test="1">' + variable("x") + "</xsl:if>" + '<xsl:if test="1">' + variable("x") + "</xsl:if>": None,
            "<xsl:choose><xsl:when test='1'>" + variable("x") + "</xsl:when><xsl:otherwise>" + variable("x") + "</xsl:otherwise></xsl:choose>": None,
            variable("x") + "<xsl:choose><xsl:when test='1'>" + variable("x") + "</xsl:when></xsl:choose>": (1, 0, 0),
        }
        for body, place in told.items():
            found = top_fault(template(body) + variable("g"))
            self.assertEqual(found, place and ((0, 0, *place), "twice"), body)
        self.assertIsNone(top_fault(template(variable("x")) + template(variable("x"), 'name="u"')))
        self.assertIsNone(top_fault(variable("g", variable("g") + variable("h")) + variable("h")))
        self.assertEqual(top_fault(variable("g", variable("x") + variable("x"))), ((0, 0, 1), "twice"))
        inner = '<xsl:attribute name="b">' + variable("x") + "</xsl:attribute>"
        self.assertIsNone(top_fault(f'<xsl:attribute-set name="s">{inner}{inner}</xsl:attribute-set>'))
        inner = '<xsl:attribute name="b">' + variable("x") * 2 + "</xsl:attribute>"
        self.assertEqual(top_fault(f'<xsl:attribute-set name="s">{inner}</xsl:attribute-set>'), ((0, 0, 0, 1), "twice"))

    def test_scope(self):
        use = '<xsl:value-of select="$x"/>'
        told = {
            use: (0,), variable("x") + use: None, use + variable("x"): (0,), variable("x", use): (0, 0),
            variable("x", more='select="$x"'): (0,), "<b>" + variable("x") + "</b>" + use: (1,),
            variable("x") + "<b><c>" + use + "</c></b>": None, variable("x") + "<b c='{$x}'/>": None, "<b c='{$x}'/>": (0,),
            "<b c='{$x}'>" + variable("x") + "</b>": (0,), "<b c='$x'/>": None, "<b c='{{$x}}'/>": None,
            variable("x", word="param") + variable("y", more='select="$x"', word="param") + use: None,
            variable("y", more='select="$x"', word="param") + variable("x", word="param"): (0,),
            '<xsl:for-each select="$x">' + variable("x") + "</xsl:for-each>": (0,),
            '<xsl:for-each select="a"><xsl:sort select="$x"/>' + variable("x") + "</xsl:for-each>": (0, 0),
            variable("x") + '<xsl:for-each select="a"><xsl:sort order="{$x}"/></xsl:for-each>': None,
            '<xsl:for-each select="a"><xsl:sort data-type="{$x}"/></xsl:for-each>': (0, 0),
            '<xsl:call-template name="t"><xsl:with-param name="x"/><xsl:with-param name="y" select="$x"/></xsl:call-template>': (0, 1),
            '<xsl:apply-templates><xsl:with-param name="y">' + variable("x") + '</xsl:with-param><xsl:sort select="$x"/></xsl:apply-templates>':
            (0, 1),
            '<xsl:if test="$x"/>': (0,), '<xsl:element name="a{$x}"/>': (0,), '<xsl:attribute name="{$x}"/>': (0,),
            '<xsl:processing-instruction name="{$x}"/>': (0,), '<xsl:copy-of select="a[b = $x]"/>': (0,),
            "<xsl:choose><xsl:when test='1'>" + variable("x") + "</xsl:when><xsl:when test='$x'/></xsl:choose>": (0, 1),
            '<xsl:value-of select="-count(a[($x)[1]/b | c]) + 1"/>': (0,), "<xsl:value-of select=\"'$x'\"/>": None,
            variable("x") + "<xsl:value-of select='$x/b[$x]'/>": None, "<xsl:value-of select='$x:y'/>": (0,),
        }
        for body, place in told.items():
            self.assertEqual(body_fault(body), place and (place, "unknown"), body)
            # Global ones are visible everywhere, in whatever order.
            if "x:y" not in body:
                self.assertIsNone(top_fault(template(body) + variable("x")))
                others = {"m": sheet(template(body, 'name="m"') + template("")), "v": sheet(variable("x", word="param"))}
                self.assertIsNone(top_fault(imported("m", "v"), others))

    def test_scope_of_sets_and_globals(self):
        attribute = '<xsl:attribute name="b">{}<xsl:value-of select="$x"/></xsl:attribute>'
        set_of = '<xsl:attribute-set name="s">{}</xsl:attribute-set>'
        self.assertEqual(top_fault(set_of.format(attribute.format(""))), ((0, 0, 0, 0), "unknown"))
        self.assertIsNone(top_fault(set_of.format(attribute.format("")) + variable("x")))
        self.assertIsNone(top_fault(set_of.format(attribute.format(variable("x")))))
        self.assertEqual(top_fault(set_of.format(attribute.format(variable("x")) + attribute.format(""))), ((0, 0, 1, 0), "unknown"))
        self.assertEqual(top_fault(variable("y", more='select="$x"')), ((0, 0), "unknown"))
        self.assertEqual(top_fault(variable("y", "<b c='{$x}'/>")), ((0, 0, 0), "unknown"))

    def test_templates_and_sets_that_are_not_there(self):
        call = '<xsl:call-template name="{}"/>'
        self.assertIsNone(body_fault(call.format("t")))
        self.assertEqual(body_fault(call.format("u")), ((0,), "unknown"))
        self.assertIsNone(top_fault(imported("m") + template(call.format("u")), {"m": sheet(template("", 'name="u"'))}))
        self.assertIsNone(top_fault(imported("m") + template(""), {"m": sheet(template(call.format("t"), 'name="u"'))}))
        for body in ('<b xsl:use-attribute-sets="s u"/>', '<xsl:copy use-attribute-sets="s u"/>',
                     '<xsl:element name="b" use-attribute-sets="u"/>'):
            have = "".join(f'<xsl:attribute-set name="{name}"/>' for name in "su")
            self.assertEqual(body_fault(body), ((0,), "unknown"))
            self.assertEqual(top_fault(template(body) + have[:have.index("/>") + 2]), ((0, 0, 0), "unknown"))
            self.assertIsNone(top_fault(template(body) + have))
        self.assertEqual(top_fault('<xsl:attribute-set name="s" use-attribute-sets="u"/>'), ((0, 0), "unknown"))
        self.assertIsNone(body_fault('<b use-attribute-sets="s" xsl:use-attribute-sets=" "/>'))

    def test_circles_of_globals(self):
        told = {
            variable("a", more='select="$a"'): (0, 0), variable("a", '<xsl:value-of select="$a"/>'): (0, 0),
            variable("a", '<b c="{$a}"/>', word="param"): (0, 0), variable("a", more='select="$b"') + variable("b"): None,
            variable("c", more='select="$a"') + variable("a", more='select="$b"') + variable("b", more='select="1 + $a"'): (0, 1),
            variable("a", more='select="$b"') + variable("b", more='select="$c"') + variable("c", more='select="$b"'): (0, 1),
            variable("a", variable("a") + '<xsl:value-of select="$a"/>'): None,
            variable("a", variable("b", more='select="$a"')): (0, 0),
            variable("a", "<b>" + variable("a") + '</b><xsl:value-of select="$a"/>'): (0, 0),
            variable("a", '<xsl:call-template name="t"/>') + template('<xsl:value-of select="$a"/>'): None,
        }
        for inner, place in told.items():
            self.assertEqual(top_fault(inner), place and (place, "circle"), inner)
        low = {"m": sheet(variable("a", more='select="$b"') + variable("b"))}
        self.assertIsNone(top_fault(imported("m") + variable("b", more='select="1"'), low))
        self.assertEqual(top_fault(imported("m") + variable("b", more='select="$a"'), low), (("m", (0, 0)), "circle"))
        self.assertIsNone(top_fault(imported("m") + variable("a") + variable("b", more='select="$a"'), low))

    def test_circles_of_sets(self):
        def sets(*rows):
            return "".join(f'<xsl:attribute-set name="{row[0]}" use-attribute-sets="{row[2:]}"/>' for row in rows)
        self.assertEqual(top_fault(sets("a a")), ((0, 0), "circle"))
        self.assertEqual(top_fault(sets("c a", "a b", "b c a", "d")), ((0, 0), "circle"))
        self.assertEqual(top_fault(sets("d a", "a b", "b a")), ((0, 1), "circle"))
        self.assertIsNone(top_fault(sets("a b c", "b c", "c")))
        self.assertEqual(top_fault(sets("a", "b a", "a b")), ((0, 0), "circle"))
        self.assertEqual(top_fault(imported("m") + sets("b a"), {"m": sheet(sets("a b"))}), (("m", (0, 0)), "circle"))
        used = '<xsl:attribute-set name="s"><xsl:attribute name="x"><b xsl:use-attribute-sets="s"/></xsl:attribute></xsl:attribute-set>'
        self.assertIsNone(top_fault(used))
        self.assertEqual(top_fault(sets("a a") + variable("v", more='select="$v"')), ((0, 0), "circle"))
        self.assertEqual(top_fault(variable("v", more='select="$v"') + sets("a a")), ((0, 0), "circle"))

    def test_the_order_of_faults_of_the_whole(self):
        twice, unknown, circle = variable("v") * 2, template("<b c='{$q}'/>"), variable("c", more='select="$c"')
        self.assertEqual(top_fault(circle + unknown + twice), ((0, 3), "twice"))
        self.assertEqual(top_fault(circle + unknown), ((0, 1, 0), "unknown"))
        self.assertEqual(top_fault(circle + unknown + twice + template("", 'name="z" x=""')), ((0, 4), "attribute"))
        self.assertEqual(top_fault(template(variable("x") * 2) + twice), ((0, 0, 1), "twice"))
        self.assertEqual(top_fault(imported("m") + twice, {"m": sheet(template(variable("x") * 2))}), (("m", (0, 0, 1)), "twice"))
        self.assertEqual(top_fault(imported("m") + twice, {"m": sheet(unknown)}), ((0, 2), "twice"))
        self.assertEqual(top_fault(variable("a", variable("y") * 2) + variable("a")), ((0, 0, 1), "twice"))


class Rows(unittest.TestCase):
    def test_rules(self):
        main = sheet('<xsl:template match="a | b/c[2]" mode="m:n" priority="-01.500"/><!--c--><xsl:template name="x"/>'
                     '<xsl:template match=" @* | text() | / "/><xsl:template match="d" priority="-0" name="y"/>'
                     '<xsl:template match="e" priority=".12345678951"/>')
        self.assertEqual(Sheet(main).rule_rows(), [
            ("child::a", "m:n", "-1.5", 0, ("", (0, 0))), ("child::b/child::c[2]", "m:n", "-1.5", 0, ("", (0, 0))),
            ("attribute::*", None, "-0.5", 0, ("", (0, 3))), ("child::text()", None, "-0.5", 0, ("", (0, 3))),
            ("/", None, "0.5", 0, ("", (0, 3))), ("child::d", None, "0", 0, ("", (0, 4))),
            ("child::e", None, "0.12345679", 0, ("", (0, 5)))])

    def test_rules_by_precedence_then_reading(self):
        others = {"m": sheet(rule("m")), "n": sheet(rule("//n"))}
        found = Sheet(sheet(imported("n") + rule("a") + included("m") + rule("b")), others).rule_rows()
        self.assertEqual([row[0] for row in found], ["//child::n", "child::a", "child::m", "child::b"])
        self.assertEqual([row[3:] for row in found], [(0, ("n", (0, 0))), (1, ("", (0, 1))), (1, ("m", (0, 0))), (1, ("", (0, 3)))])

    def test_names(self):
        others = {"m": sheet(template("", 'name="b"') + template("", 'name="a:z"'))}
        made = Sheet(sheet(imported("m") + template("", 'name="b"') + template("", 'name="B"') + rule("x")), others)
        self.assertEqual(made.template_names(), ["B", "a:z", "b"])
        self.assertEqual(Sheet(sheet("")).template_names(), [])

    def test_globals(self):
        others = {"m": sheet(variable("v") + variable("w", word="param") + variable("z", more='select="1"'))}
        made = Sheet(sheet(imported("m") + variable("v", word="param") + "<!--c-->" + variable("a", "x") + template(variable("l"))), others)
        self.assertEqual(made.global_rows(), [
            ("a", "variable", 1, ("", (0, 3))), ("v", "param", 1, ("", (0, 1))), ("w", "param", 0, ("m", (0, 1))),
            ("z", "variable", 0, ("m", (0, 2)))])

    def test_sets(self):
        def set_of(name, *inner):
            return f'<xsl:attribute-set name="{name}">' + "".join(f'<xsl:attribute name="{one}"/>' for one in inner) + "</xsl:attribute-set>"
        others = {"low": sheet(set_of("s", "l1", "{$v}") + variable("v")), "in": sheet(set_of("s", "i"))}
        main = sheet(imported("low") + set_of("s", "a", "b") + included("in") + set_of("r") + set_of("s", "a", " c "))
        made = Sheet(main, others)
        self.assertEqual(made.set_rows(), [("r", []), ("s", ["l1", "{$v}", "a", "b", "i", "a", " c "])])
        made.set_rows()[0][1].append(1)
        self.assertEqual(made.set_rows()[0], ("r", []))

    def test_new_lists(self):
        made = Sheet(sheet(rule("a") + template("") + variable("v")))
        for method in (made.rule_rows, made.template_names, made.global_rows, made.set_rows):
            told = method()
            method().append(1)
            self.assertEqual(method(), told)

    def test_nothing(self):
        made = Sheet(sheet("<!--c--> "))
        self.assertEqual((made.rule_rows(), made.template_names(), made.global_rows(), made.set_rows()), ([], [], [], []))

    def test_methods_are_of_the_class_itself(self):
        for name in ("rule_rows", "template_names", "global_rows", "set_rows"):
            self.assertIn(name, vars(Sheet))

    def test_large(self):
        main = sheet("".join(rule(f"a{at}") + variable(f"v{at}", more=f'select="$v{at + 1}"') for at in range(900)) + variable("v900"))
        self.assertEqual(len(Sheet(main).rule_rows()), 900)


if __name__ == "__main__":
    unittest.main()
