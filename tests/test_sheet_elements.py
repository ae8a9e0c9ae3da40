"""[6.1] to [6.6], [6.11]: the elements of stylesheets, their attributes and contents, and the faults of these."""

import unittest

from pathloom.attribute_values import read_value, template_parts
from pathloom.errors import BadValue
from pathloom.sheets import Sheet
from tests.shown import STRANGE
from tests.sheet_shown import body_fault, fault, sheet, template, top_fault

# Values of each sort that are right and that are wrong, with the words of the faults.
PATHS = (["a", "$g", "1 + 2", "current()", "//a[. = 'x']"], ["", "a b", "a[", "foo(a)", "'"], "path")
CLOSED = (["a", "1 + 2", "current()", "'$'"], ["", "a b", "$g", "a[$g]"], "path")
PATTERNS = (["a", "a | /", "@a[1]", "key('k', 'w')"], ["", "a b", "1", "a[$g]", "a[current()]", "..", "self::a"], "path")
NAME = (["a", "a:b", "_.-1"], ["", " a", "a ", "1", "a b", "*", "a:", "a:b:c", "{1}"], "name")
NAMES = (["", " ", "a", " a:b\tc\n"], ["1", "a *", "a,b", "a:", "{1}"], "name")
NAMES_OR_ALL = (["", "a", "*", "a * b"], ["1", "**", "a,b", "a:*"], "name")
DECIMAL = (["0", "1", "-1", "1.5", "-.5", "5.", "007", "0.12345678901"],
           ["", "-", ".", "-.", "+1", "1e3", " 1", "1 ", "--1", "1.2.3", "- 1", "a", "Infinity"], "attribute")
YES_OR_NO = (["yes", "no"], ["", "Yes", "true", " yes", "1"], "attribute")
METHOD = (["xml", "text"], ["", "html", "XML", " xml", "a:b"], "attribute")
ANY = (["", "x", "{", "1.0"], [], "")
AVT = (["", "a", "{a}", "a{1}b{'}'}", "{{", "}}", "{{}}", "{{{a}}}", "{\"{\"}", "{$g}", "{ a }", "}}{a}{{"],
       ["{", "}", "{}", "{a", "a}", "{{}", "{{{", "{a b}", "{'}", "{ }", "}}}", "{{{}}}", "{{a}", "{a}}"], "path")
HREF = (["m"], ["q", "M", " m"], "href")

# For each element of the table: how it stands in a module, with its attributes and what is in it.
TOP, BODY, CALL, APPLY, EACH, CHOOSE, SET = [
    '{}', '<xsl:template name="own">{}</xsl:template>', '<xsl:template name="own"><xsl:call-template name="own">{}'
    '</xsl:call-template></xsl:template>', '<xsl:template name="own"><xsl:apply-templates>{}</xsl:apply-templates>'
    '</xsl:template>', '<xsl:template name="own"><xsl:for-each select="a">{}</xsl:for-each></xsl:template>',
    '<xsl:template name="own"><xsl:choose><xsl:when test="1"/>{}</xsl:choose></xsl:template>',
    '<xsl:attribute-set name="own">{}</xsl:attribute-set>']
# Each: the frame, attributes as (name, sort, required), and a content that is right.
TABLE = {
    "import": (TOP, [("href", HREF, True)], ""), "include": (TOP, [("href", HREF, True)], ""),
    "strip-space": (TOP, [("elements", NAMES_OR_ALL, True)], ""),
    "preserve-space": (TOP, [("elements", NAMES_OR_ALL, True)], ""),
    "output": (TOP, [("method", METHOD, False), ("omit-xml-declaration", YES_OR_NO, False),
                     ("cdata-section-elements", NAMES, False), ("version", ANY, False), ("encoding", ANY, False),
                     ("standalone", YES_OR_NO, False), ("indent", ANY, False), ("media-type", ANY, False),
                     ("doctype-system", ANY, False), ("doctype-public", ANY, False)], ""),
    "key": (TOP, [("name", NAME, True), ("match", PATTERNS, True), ("use", CLOSED, True)], ""),
    "attribute-set": (TOP, [("name", NAME, True), ("use-attribute-sets", (["", " "], *NAMES[1:]), False)],
                      '<xsl:attribute name="b"/>'),
    "template": (TOP, [("match", PATTERNS, True), ("name", NAME, False), ("priority", DECIMAL, False), ("mode", NAME, False)],
                 '<xsl:param name="p"/>x'),
    "variable": (BODY, [("name", NAME, True)], "x<b/>"), "param": (BODY, [("name", NAME, True)], "x<b/>"),
    "with-param": (CALL, [("name", NAME, True)], "x<b/>"),
    "apply-templates": (BODY, [("select", PATHS, False), ("mode", NAME, False)],
                        '<xsl:sort/><xsl:with-param name="p"/><xsl:sort/>'),
    "apply-imports": (BODY, [], ""), "call-template": (BODY, [("name", (["own"], NAME[1], "name"), True)],
                                                       '<xsl:with-param name="p"/><xsl:with-param name="p"/>'),
    "for-each": (BODY, [("select", PATHS, True)], "<xsl:sort/><xsl:sort/>x<b/>"),
    "sort": (EACH, [("select", PATHS, False), ("order", AVT, False), ("data-type", AVT, False)], ""),
    "if": (BODY, [("test", PATHS, True)], "x<b/>"), "when": (CHOOSE, [("test", PATHS, True)], "x<b/>"),
    "choose": (BODY, [], '<xsl:when test="1"/><xsl:when test="1"/><xsl:otherwise/>'), "otherwise": (CHOOSE, [], "x<b/>"),
    "value-of": (BODY, [("select", PATHS, True)], ""), "copy-of": (BODY, [("select", PATHS, True)], ""),
    "copy": (BODY, [("use-attribute-sets", (["", " "], *NAMES[1:]), False)], "x<b/>"),
    "element": (BODY, [("name", AVT, True), ("use-attribute-sets", (["", " "], *NAMES[1:]), False)], "x<b/>"),
    "attribute": (SET, [("name", AVT, True)], "x<b/>"), "processing-instruction": (BODY, [("name", AVT, True)], "x<b/>"),
    "text": (BODY, [], "x"), "comment": (BODY, [], "x<b/>"), "message": (BODY, [("terminate", YES_OR_NO, False)], "x<b/>"),
}
OTHERS = {"m": sheet("")}
GLOBAL = '<xsl:variable name="g"/>'
EMPTY = {"import", "include", "strip-space", "preserve-space", "output", "key", "apply-imports", "sort", "value-of", "copy-of"}
TEXTLESS = EMPTY | {"attribute-set", "apply-templates", "call-template", "choose"}
# Elements that may stand in what has no body, by what it is.
OWN = {"attribute-set": {"attribute"}, "apply-templates": {"sort", "with-param"}, "call-template": {"with-param"},
       "choose": {"when"}}
INSTRUCTIONS = {"apply-templates", "apply-imports", "call-template", "for-each", "if", "choose", "value-of", "copy-of", "copy",
                "element", "attribute", "processing-instruction", "text", "comment", "message", "variable"}


def quoted(text):
    return '"' + text.replace("&", "&amp;").replace('"', "&quot;").replace("\t", "&#9;").replace("\n", "&#10;") + '"'


def written(word, told, inner=""):
    """An element in its frame, with a dict of attributes, and the place of the element."""
    frame = TABLE[word][0]
    attributes = "".join(f" {name}={quoted(text)}" for name, text in told.items())
    text = frame.format(f"<xsl:{word}{attributes}>{inner}</xsl:{word}>")
    # An import stands ahead of all others.
    text = text + GLOBAL if word == "import" else GLOBAL + text
    levels = {TOP: (0 if word == "import" else 1,), BODY: (1, 0), SET: (1, 0), CHOOSE: (1, 0, 1)}
    return sheet(text), (0, *levels.get(frame, (1, 0, 0)))


def required(word):
    return {name: sort[0][0] for name, sort, needed in TABLE[word][1] if needed}


class Attributes(unittest.TestCase):
    def check(self, word, told, error, inner=""):
        main, place = written(word, told, inner)
        self.assertEqual(fault(main, OTHERS), None if error is None else (place, error), main)

    def test_right_ones(self):
        for word, (_, rows, inner) in TABLE.items():
            self.check(word, required(word), None, inner)
            if word != "choose":
                self.check(word, required(word), None)
            for name, (right, _, _), _ in rows:
                for text in right:
                    self.check(word, {**required(word), name: text}, None, inner)

    def test_wrong_values(self):
        for word, (_, rows, inner) in TABLE.items():
            for name, (_, wrong, error), _ in rows:
                for text in wrong:
                    self.check(word, {**required(word), name: text}, error, inner)

    def test_missing_ones(self):
        for word in TABLE:
            for name in required(word):
                told = required(word)
                del told[name]
                self.check(word, told, "attribute")

    def test_unknown_ones(self):
        for word, (_, _, inner) in TABLE.items():
            for name in ("x", "xmlns", "Select", "lang", "case-order", "disable-output-escaping"):
                self.check(word, {**required(word), name: "a"}, "attribute", inner)
            for name in ("x:y", "xml:space", "xmlns:xsl", "xmlns:x", "xsl:select", "xml:lang", "xsl:use-attribute-sets"):
                self.check(word, {**required(word), name: "{"}, None, inner)
        self.check("value-of", {"select": "a", "mode": "m"}, "attribute")
        self.check("if", {"test": "a", "select": "m"}, "attribute")
        self.check("for-each", {"select": "a", "mode": "m"}, "attribute")

    def test_select_of_declarations(self):
        for word in ("variable", "param", "with-param"):
            for text in PATHS[0]:
                self.check(word, {"name": "x", "select": text}, None)
            for text in PATHS[1]:
                self.check(word, {"name": "x", "select": text}, "path")
            self.check(word, {"name": "x", "select": "a"}, "attribute", "x")
            self.check(word, {"name": "x", "select": "a"}, "attribute", "<b/>")
            self.check(word, {"name": "x", "select": "a"}, "attribute", "<xsl:nothing/>")
            self.check(word, {"name": "x", "select": "a"}, None, " \n<!--c--><?p?> ")
            self.check(word, {"name": "x", "select": "a", "xml:space": "preserve"}, "attribute", " ")
            self.check(word, {"name": "x", "select": "a", "xml:space": "preserve"}, None)

    def test_the_order_of_faults_of_attributes(self):
        told = [
            ("key", {"name": "1", "match": "", "use": ""}, "name"), ("key", {"match": "", "use": ""}, "attribute"),
            ("key", {"name": "a", "match": "", "x": ""}, "path"), ("key", {"use": "", "match": "a", "name": "1"}, "name"),
            ("template", {"priority": "x", "name": "1"}, "name"), ("template", {"mode": "1", "priority": "x"}, "attribute"),
            ("template", {"mode": "1", "match": ""}, "path"), ("output", {"standalone": "x", "cdata-section-elements": "1"}, "name"),
            ("output", {"x": "x", "cdata-section-elements": "1"}, "name"), ("sort", {"x": "", "order": "{"}, "path"),
            ("variable", {"name": "1", "select": ""}, "name"), ("variable", {"select": ""}, "attribute"),
            ("import", {"x": "", "href": "q"}, "href"), ("include", {"x": "", "href": ""}, "cycle"),
            ("element", {"name": "{", "use-attribute-sets": "1"}, "path"), ("element", {"use-attribute-sets": "1"}, "attribute"),
        ]
        for word, attributes, error in told:
            self.check(word, attributes, error, "<xsl:nothing/>")

    def test_templates(self):
        told = {'match="a"': None, 'name="a"': None, 'match="a" name="a"': None, "": "attribute", 'mode="m"': "attribute",
                'name="a" mode="m"': "attribute", 'name="a" priority="1"': "attribute", 'match="a" mode="m" priority="1"': None,
                'match="a" name="b" mode="m" priority="1"': None, 'priority="1"': "attribute", 'name="a" x="y"': "attribute"}
        for text, error in told.items():
            self.assertEqual(top_fault(template("<xsl:nothing/>" if error else "", text)), error and ((0, 0), error))


class Templates(unittest.TestCase):
    """What is kept of attribute value templates, for those that carry them out."""

    def test_parts(self):
        path = ("path", ("path", None, (("child", ("name", "a"), ()),)))
        told = {"": [], "x y": [("text", "x y")], "{a}": [path], "x{a}y{ a}": [("text", "x"), path, ("text", "y"), path],
                "{{x}}": [("text", "{x}")], "{{{a}}}": [("text", "{"), path, ("text", "}")], "{a}{a}": [path, path],
                "}}{a}{{": [("text", "}"), path, ("text", "{")], "{'}{'}": [("path", ("text", "}{"))], "{{a}}": [("text", "{a}")],
                '{concat("}", \'"\')}': [("path", ("call", "concat", (("text", "}"), ("text", '"'))))], "'{a}'": [("text", "'"), path, ("text", "'")]}
        for text, parts in told.items():
            self.assertEqual(template_parts(text), parts, text)

    def test_values_of_other_sorts(self):
        self.assertEqual(read_value("names", " a\tb:c\n"), ["a", "b:c"])
        self.assertEqual(read_value("names or all", "* a *"), ["*", "a", "*"])
        self.assertEqual([read_value(sort, text) for sort, text in (("name", "a"), ("decimal", "1"), ("any", "{"), ("yes or no", "no"))],
                         ["a", "1", "{", "no"])


class Contents(unittest.TestCase):
    def test_what_stands_where(self):
        """Each element in each other one."""
        for outer in TABLE:
            if outer in ("text", "import", "include"):
                continue
            for inner in list(TABLE) + ["nothing", "stylesheet", "transform", "Text", "number", "fallback"]:
                told = required(inner) if inner in TABLE else {}
                own = '<xsl:when test="1"/>' if inner == "choose" else ""
                attributes = "".join(f" {name}={quoted(text)}" for name, text in told.items())
                main, place = written(outer, required(outer), f"<xsl:{inner}{attributes}>{own}</xsl:{inner}>")
                allowed = OWN.get(outer, set() if outer in EMPTY else INSTRUCTIONS)
                if outer == "template":
                    allowed = allowed | {"param"}
                elif outer == "for-each":
                    allowed = allowed | {"sort"}
                error = None if inner in allowed else "element"
                if inner == "call-template" and error is None and 'name="own"' not in TABLE[outer][0]:
                    error = "unknown"
                elif inner == "call-template" and error is None and TABLE[outer][0] == SET:
                    error = "unknown"
                self.assertEqual(fault(main, OTHERS), error and ((*place, 0), error), main)

    def test_texts(self):
        for word in TABLE:
            for text in ("x", " x", "&#32;x", "<!--c-->x<?p?>", "<![CDATA[x]]>"):
                main, place = written(word, required(word), text)
                at = 1 if "c" in text else 0
                self.assertEqual(fault(main, OTHERS), ((*place, at), "text") if word in TEXTLESS else
                                 ((place, "element") if word == "choose" else None), main)
            main, place = written(word, required(word), " \n&#9;<!--c--> <?p?><![CDATA[ ]]>")
            self.assertEqual(fault(main, OTHERS), (place, "element") if word == "choose" else None)
            main, place = written(word, {**required(word), "xml:space": "preserve"}, " ")
            self.assertEqual(fault(main, OTHERS), (place, "element") if word == "choose" else None)

    def test_literal_elements(self):
        for word in TABLE:
            main, place = written(word, required(word), "<b/>")
            self.assertEqual(fault(main, OTHERS), ((*place, 0), "element") if word in TEXTLESS | {"text"} else None, main)
            main, place = written(word, required(word), "<b:c><d>x<xsl:value-of select='1'/></d></b:c>")
            self.assertEqual(fault(main, OTHERS), ((*place, 0), "element") if word in TEXTLESS | {"text"} else None, main)

    def test_text_element(self):
        self.assertIsNone(body_fault("<xsl:text> <!--c-->x</xsl:text>"))
        self.assertEqual(body_fault("<xsl:text>a<b/></xsl:text>"), ((0, 1), "element"))
        self.assertEqual(body_fault("<xsl:text>a<xsl:text/></xsl:text>"), ((0, 1), "element"))

    def test_what_stands_ahead(self):
        param, sort = '<xsl:param name="p{}"/>', "<xsl:sort/>"
        self.assertIsNone(body_fault(param.format(1) + " " + param.format(2) + "x"))
        self.assertEqual(body_fault("x" + param.format(1)), ((1,), "element"))
        self.assertEqual(body_fault(param.format(1) + "<b/>" + param.format(2)), ((2,), "element"))
        self.assertEqual(body_fault(param.format(1) + "<!--c-->x<?p?>" + param.format(2)), ((4,), "element"))
        self.assertEqual(body_fault(f"<b>{param.format(1)}</b>"), ((0, 0), "element"))
        each = '<xsl:for-each select="a">{}</xsl:for-each>'
        self.assertEqual(body_fault(each.format(sort + "x" + sort)), ((0, 2), "element"))
        self.assertEqual(body_fault(each.format(param.format(1))), ((0, 0), "element"))
        self.assertEqual(body_fault(sort), ((0,), "element"))
        self.assertEqual(body_fault('<xsl:with-param name="p"/>'), ((0,), "element"))
        # White space that is kept counts in a body alone.
        kept = '<xsl:template name="t" xml:space="preserve"> {} {} x</xsl:template>'.format(param.format(1), param.format(2))
        self.assertIsNone(top_fault(kept))
        kept = '<xsl:template name="t" xml:space="preserve"> {} y {} x</xsl:template>'.format(param.format(1), param.format(2))
        self.assertEqual(top_fault(kept), ((0, 0, 3), "element"))
        self.assertIsNone(body_fault('<xsl:choose xml:space="preserve"> <xsl:when test="1"/> <xsl:otherwise/> </xsl:choose>'))

    def test_choose(self):
        when, other = '<xsl:when test="1"/>', "<xsl:otherwise/>"
        told = {"": ((0,), "element"), other: ((0, 0), "element"), when: None, when + other: None,
                when + other + when: ((0, 2), "element"), when + other + other: ((0, 2), "element"),
                other + when: ((0, 0), "element"), when + "x": ((0, 1), "text"), "x": ((0, 0), "text"),
                "<b/>": ((0, 0), "element"), when + '<xsl:if test="1"/>': ((0, 1), "element"), "<!--c-->": ((0,), "element"),
                '<xsl:when test=""/>': ((0, 0), "path"), f"{when}<xsl:otherwise x='1'/>": ((0, 1), "attribute")}
        for inner, error in told.items():
            self.assertEqual(body_fault(f"<xsl:choose>{inner}</xsl:choose>"), error, inner)

    def test_top_level(self):
        told = {"<x:y><xsl:nothing z='{'/>x</x:y>": None, "<b/>": ((0, 0), "element"), "<xsl:nothing/>": ((0, 0), "element"),
                "<xsl:value-of select='1'/>": ((0, 0), "element"), "x": ((0, 0), "text"), " <!--c-->x": ((0, 0), "text"),
                "<!--c--> x": ((0, 1), "text"), "<xsl:stylesheet version='1.0'/>": ((0, 0), "element"),
                "<xsl:if test='1'/>": ((0, 0), "element"), "<template/>": ((0, 0), "element"), "<xslt:x/>": None,
                "<x:y/> <x:y/>z": ((0, 3), "text"), "<xsl:with-param name='a'/>": ((0, 0), "element"),
                "<xml:b/>": None}
        for inner, error in told.items():
            self.assertEqual(top_fault(inner), error, inner)

    def test_literal_attributes(self):
        told = {"a='{'": "path", "a='{b}'": None, "x:y='{}'": "path", "xml:space='{'": None, "xmlns:xsl='{'": None,
                "xmlns='{'": "path", "xmlns:x='{'": "path", "xsl:version='x'": None, "xsl:use-attribute-sets=''": None,
                "xsl:use-attribute-sets='1'": "name", "xsl:select='a'": "attribute", "xsl:x='{'": "attribute",
                "xsl:x='' a='{'": "path", "xsl:x='' xsl:use-attribute-sets='1'": "name", "select='{{'": None,
                "a='{' xsl:use-attribute-sets='1'": "path", "xsl:use-attribute-sets='1' a='{'": "name",
                "use-attribute-sets='none there'": None, "xml:lang='{'": "path"}
        for text, error in told.items():
            self.assertEqual(body_fault(f"<b {text}>{'<xsl:nothing/>' if error else ''}</b>"), error and ((0,), error), text)

    def test_levels(self):
        for most in (58, 59):
            for one, other in (("<b>", "</b>"), ("<xsl:copy>", "</xsl:copy>"), ("<xsl:if test='1'>", "</xsl:if>")):
                text = one * (most - 1) + "<c/>" + other * (most - 1)
                self.assertIsNone(body_fault(text))
                self.assertIsNone(body_fault(text.replace("<c/>", "<xsl:text>x</xsl:text>")))
        for inner in ("<c/>", "<c a='{'/>", "<xsl:text/>", "<xsl:nothing/>", "<xsl:text><b/></xsl:text>"):
            deep = "<b>" * 59 + inner + "</b>" * 59
            self.assertEqual(body_fault(deep), ((0,) * 60, "element"))
        for inner, error in (("<c/>", None), ("<c><d/></c>", ((0,) * 62, "element"))):
            main = "<a xsl:version='1.0'>" + "<b>" * 59 + inner + "</b>" * 59 + "</a>"
            self.assertEqual(fault(main), error)
        choose = "<b>" * 57 + "<xsl:choose><xsl:when test='1'/></xsl:choose>" + "</b>" * 57
        self.assertIsNone(body_fault(choose))
        self.assertEqual(body_fault("<b>" + choose + "</b>"), ((0,) * 60, "element"))
        self.assertIsNone(top_fault("<x:y>" * 75 + "</x:y>" * 75))

    def test_levels_in_what_has_no_body_and_ahead_of_bodies(self):
        # Each frame with the place of its inner part, and how many levels it has.
        frames = [
            ("<xsl:choose><xsl:when test='1'>{}</xsl:when></xsl:choose>", (0, 0, 0), 2),
            ("<xsl:choose><xsl:when test='1'/><xsl:otherwise>{}</xsl:otherwise></xsl:choose>", (0, 1, 0), 2),
            ("<xsl:call-template name='t'><xsl:with-param name='p'>{}</xsl:with-param></xsl:call-template>", (0, 0, 0), 2),
            ("<xsl:param name='p'>{}</xsl:param>", (0, 0), 1),
        ]
        for frame, place, levels in frames:
            for more in (0, 1):
                deep = 59 - levels - 1 + more
                found = body_fault(frame.format("<b>" * deep + "<c/>" + "</b>" * deep))
                self.assertEqual(found, ((*place, *(0,) * deep), "element") if more else None, frame)
        for more in (0, 1):
            deep = 57 + more
            found = body_fault("<b>" * deep + "<xsl:for-each select='a'><xsl:sort/></xsl:for-each>" + "</b>" * deep)
            self.assertEqual(found, ((0,) * (deep + 2), "element") if more else None)
            found = body_fault("<b>" * deep + "<xsl:apply-templates><xsl:sort/></xsl:apply-templates>" + "</b>" * deep)
            self.assertEqual(found, ((0,) * (deep + 2), "element") if more else None)
        found = top_fault("<xsl:attribute-set name='s'><xsl:attribute name='b'>" + "<b>" * 58 + "<c/>" + "</b>" * 58 +
                          "</xsl:attribute></xsl:attribute-set>")
        self.assertEqual(found, ((0, 0, 0) + (0,) * 59, "element"))


class Roots(unittest.TestCase):
    def test_roots(self):
        told = {
            '<xsl:stylesheet version="1.0"/>': None, "<xsl:transform version='1.0'/>": None,
            "<!--c--><xsl:transform a='{' x:y='' version='1.0' xmlns='q' xsl:z='1'/>": None,
            "<xsl:stylesheet/>": "version", "<xsl:stylesheet version='1.1'/>": "version",
            "<xsl:stylesheet version='1'/>": "version", "<xsl:stylesheet version=' 1.0'/>": "version",
            "<xsl:stylesheet xsl:version='1.0'/>": "version", "<xsl:template version='1.0' match='a'/>": "version",
            "<xsl:nothing xsl:version='1.0'/>": "version", "<a/>": "version", "<a version='1.0'/>": "version",
            "<a xsl:version='1.0'/>": None, "<a xsl:version='2.0'/>": "version", "<x:a xsl:version='1.0'/>": None,
            "<stylesheet version='1.0'/>": "version", "<a xsl:version='1.0'>x<xsl:value-of select='1'/></a>": None,
        }
        for main, error in told.items():
            at = 1 if main.startswith("<!") else 0
            self.assertEqual(fault(main), error and ((at,), error), main)
        self.assertEqual(fault("<!--c-->\n<?p?><a/>"), ((2,), "version"))

    def test_no_document(self):
        for main in ("", "x", "<a>", "<a xsl:version='1.0'/>x", "<a xsl:version='\u00e9'/>", "<a xsl:version='1.0'/>\r"):
            self.assertEqual(fault(main), ((), "document"))

    def test_simplified(self):
        told = Sheet("<!--c--><a xsl:version='1.0'><b/></a>").rule_rows()
        self.assertEqual(told, [("/", None, "0.5", 0, ("", (1,)))])
        self.assertEqual(fault("<a xsl:version='1.0' b='{'/>"), ((0,), "path"))
        self.assertEqual(fault("<a xsl:version='1.0' xsl:x=''/>"), ((0,), "attribute"))
        self.assertEqual(fault("<a xsl:version='1.0'><xsl:param name='p'/></a>"), ((0, 0), "element"))
        self.assertEqual(fault("<a xsl:version='1.0' b='{$x}'/>"), ((0,), "unknown"))
        self.assertIsNone(fault("<a xsl:version='1.0'><xsl:variable name='x'/><b c='{$x}'/></a>"))

    def test_wrong_arguments(self):
        for thing in STRANGE:
            with self.assertRaises(BadValue) as caught:
                Sheet(thing, thing)
            self.assertEqual(caught.exception.why, "main")
            if thing is None or thing == {}:
                continue
            with self.assertRaises(BadValue) as caught:
                Sheet("<no document", thing)
            self.assertEqual(caught.exception.why, "others")
            for others in ({"a": thing}, {"b": "", "a": thing}):
                with self.assertRaises(BadValue) as caught:
                    Sheet("<no document", others)
                self.assertEqual(caught.exception.why, "others")
        for others in ({1: "x"}, {None: "x"}, {("a",): "x"}, [("a", "x")], "a"):
            with self.assertRaises(BadValue) as caught:
                Sheet(sheet(""), others)
            self.assertEqual(caught.exception.why, "others")
        self.assertEqual(Sheet(main=sheet(""), others={"any name": "no document"}).rule_rows(), [])
        self.assertEqual(Sheet(sheet(""), None).rule_rows(), [])


class WhiteSpace(unittest.TestCase):
    def attribute_fault(self, inner, outer=""):
        """Whether a select stands beside content."""
        return top_fault(f"<xsl:template name='t' {outer}><xsl:variable name='x' select='1'>{inner}</xsl:variable></xsl:template>")

    def test_removed_and_kept(self):
        wrong = ((0, 0, 0), "attribute")
        for inner in (" ", "\n<!--c-->\t", "&#32;", "<![CDATA[ ]]>"):
            self.assertIsNone(self.attribute_fault(inner))
            self.assertEqual(self.attribute_fault(inner, "xml:space='preserve'"), wrong)
            self.assertIsNone(self.attribute_fault(inner, "xml:space='default'"))
        inner = "<xsl:variable name='x' select='1' xml:space='{}'> </xsl:variable>"
        self.assertEqual(top_fault(f"<xsl:template name='t'>{inner.format('preserve')}</xsl:template>"), wrong)
        self.assertIsNone(top_fault(f"<xsl:template name='t' xml:space='preserve'>{inner.format('x')}</xsl:template>"))
        whole = sheet("<xsl:variable name='x' select='1'> </xsl:variable>", " xml:space='preserve'")
        self.assertEqual(fault(whole), ((0, 0), "attribute"))
        # Texts are joined first.
        self.assertEqual(self.attribute_fault(" <!--c-->x"), wrong)


if __name__ == "__main__":
    unittest.main()
