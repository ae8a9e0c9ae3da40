"""What plain stylesheets make of documents: a small interpreter, by the words of stages 7 and 10 alone.

Elements are tuples (name, attributes, content), texts are texts. It reads with
the standard library and shares nothing with the program.
"""

import itertools
import random
import re
from xml.etree import ElementTree

XSL = "{x}"


def parsed(text):
    text = re.sub(r"<(xsl:stylesheet|xsl:transform) ", r"<\1 xmlns:xsl='x' ", text, count=1)
    return ElementTree.fromstring(text)


def parts(element):
    """The texts and elements in an element, without white space alone but in xsl:text."""
    found = [element.text or ""]
    for child in element:
        found += [child, child.tail or ""]
    kept = element.tag == XSL + "text"
    return [part for part in found if not isinstance(part, str) or part and (kept or part.strip(" \t\n"))]


def tested(text, names):
    text = text.strip()
    if text.startswith("not") and text.endswith(")"):
        return text[3:].strip()[1:-1].strip() not in names
    return text in names


class Plain:
    """A plain stylesheet."""

    def __init__(self, main):
        top = parsed(main)
        self.rules = {(one.get("mode"), one.get("match").strip()): one for one in top}
        self.parts = {one: parts(one) for one in top.iter()}

    def result(self, document):
        """What is made of a document, given by its outermost element (label, children)."""
        if (None, "/") in self.rules:
            return joined(self.body(self.rules[None, "/"], [document]))
        return joined(self.element(None, document))

    def element(self, mode, node):
        rule = self.rules[(mode, node[0]) if (mode, node[0]) in self.rules else (mode, "*")]
        return self.body(rule, node[1])

    def body(self, element, children):
        names = {child[0] for child in children}
        made = []
        for part in self.parts[element]:
            if isinstance(part, str):
                made.append(part)
            elif part.tag == XSL + "text":
                made += self.parts[part]
            elif part.tag == XSL + "if":
                made += self.body(part, children) if tested(part.get("test"), names) else []
            elif part.tag == XSL + "choose":
                for way in part:
                    if way.tag == XSL + "otherwise" or tested(way.get("test"), names):
                        made += self.body(way, children)
                        break
            elif part.tag == XSL + "apply-templates":
                wanted = [name.strip() for name in part.get("select").split("|")]
                for child in children:
                    if wanted == ["*"] or child[0] in wanted:
                        made += self.element(part.get("mode"), child)
            else:
                made.append((part.tag, tuple(part.attrib.items()), joined(self.body(part, children))))
        return made


def joined(made):
    """Content with one text where some meet."""
    found = []
    for part in made:
        if isinstance(part, str) and found and isinstance(found[-1], str):
            found[-1] += part
        else:
            found.append(part)
    return tuple(found)


def source(text):
    """The outermost element of a document, as (label, children)."""
    def made(element):
        return (element.tag, [made(child) for child in element])
    return made(ElementTree.fromstring(text))


def content(text):
    """A document as a result."""
    def made(element):
        return (element.tag, tuple(element.attrib.items()), tuple(one if isinstance(one, str) else made(one)
                                                                   for one in all_parts(element)))

    def all_parts(element):
        found = [element.text or ""]
        for child in element:
            found += [child, child.tail or ""]
        return [part for part in found if not isinstance(part, str) or part]
    return (made(ElementTree.fromstring(text)),)


def written(part):
    if isinstance(part, str):
        return part.replace("&", "&amp;").replace("<", "&lt;").replace("]]>", "]]&gt;")
    name, attributes, inner = part
    told = "".join(f' {key}="{text}"' for key, text in attributes)
    return f"<{name}{told}>" + "".join(written(one) for one in inner) + f"</{name}>"


def documents(labels, most):
    """All documents with at most so many elements."""
    def forests(size):
        if size == 0:
            yield []
        for first in range(1, size + 1):
            for inner in forests(first - 1):
                for label in labels:
                    for rest in forests(size - first):
                        yield [(label, inner), *rest]
    for size in range(1, most + 1):
        for label, inner in itertools.product(labels, forests(size - 1)):
            yield (label, inner)


class Maker:
    """Makes plain stylesheets, with a source of choices."""

    def __init__(self, choices, names="ab", modes=("m",), tests="ab"):
        self.choices = choices
        self.names = names
        self.modes = (None, *modes)
        self.tests = tests

    def test(self):
        name = self.choices.choice(self.tests)
        return self.choices.choice([name, f"not({name})"])

    def apply(self):
        pick = self.choices.choice
        mode = pick(self.modes)
        select = pick(["*", "*", self.names[0], "|".join(self.names), self.names[-1]])
        return f'<xsl:apply-templates select="{select}"' + (f' mode="{mode}"/>' if mode else "/>")

    def made(self, depth, texts):
        """Parts without an apply-templates beside them."""
        pick = self.choices.choice
        found = []
        for _ in range(pick([0, 1, 1, 2])):
            sort = pick(["element"] * 4 + (["text", "xsl"] if texts else []) + (["if", "choose"] if self.tests else []))
            if sort == "text":
                found.append(pick(["t", "u"]))
            elif sort == "xsl":
                found.append(pick(["<xsl:text>t</xsl:text>", "<xsl:text> </xsl:text>", "<xsl:text/>"]))
            elif sort == "if":
                found.append(f'<xsl:if test="{self.test()}">{self.made(depth - 1, texts)}</xsl:if>')
            elif sort == "choose":
                ways = f'<xsl:when test="{self.test()}">{self.made(depth - 1, texts)}</xsl:when>'
                found.append(f"<xsl:choose>{ways}<xsl:otherwise>{self.made(depth - 1, texts)}</xsl:otherwise></xsl:choose>")
            else:
                name = pick(["x", "x", "y"])
                told = pick(["", "", "", ' k="1"', ' l="2" k="1"'])
                found.append(f"<{name}{told}>{self.inside(depth - 1)}</{name}>")
        return "".join(found) if depth > -3 else ""

    def last(self, depth):
        """What may stand last: an apply-templates, perhaps a test around."""
        sort = self.choices.choice(["apply", "apply", "apply", "none", "if", "choose"])
        if sort == "none" or sort != "apply" and (not self.tests or depth < -2):
            return ""
        if sort == "apply":
            return self.apply()
        inner = self.made(depth - 1, True) + self.last(depth - 1)
        if sort == "if":
            return f'<xsl:if test="{self.test()}">{inner}</xsl:if>'
        other = self.made(depth - 1, True) + self.last(depth - 1)
        return f'<xsl:choose><xsl:when test="{self.test()}">{inner}</xsl:when><xsl:otherwise>{other}</xsl:otherwise></xsl:choose>'

    def inside(self, depth):
        return self.made(depth, True) + self.last(depth) if depth > -2 else ""

    def sheet(self):
        rows = []
        for mode in self.modes:
            told = f' mode="{mode}"' if mode else ""
            rows.append(f'<xsl:template match="*"{told}>{self.made(1, False)}</xsl:template>')
            for name in self.names:
                if self.choices.random() < 0.4:
                    rows.append(f'<xsl:template match="{name}"{told}>{self.made(1, False)}</xsl:template>')
        if self.choices.random() < 0.3:
            rows.append(f'<xsl:template match="/">{self.inside(1)}</xsl:template>')
        self.choices.shuffle(rows)
        return '<xsl:stylesheet version="1.0">' + "".join(rows) + "</xsl:stylesheet>"


def changed(main, choices):
    """A stylesheet with one small thing in it otherwise."""
    swaps = [('select="*"', 'select="a"'), ("<x>", "<x><y></y>"), ("</x>", "</x><x></x>"), (">t<", ">u<"), (' mode="m"', ""), ('"a"', '"b"'),
             ("not(a)", "a"), ("<xsl:text> </xsl:text>", ""), (' k="1"', ""), ('select="a|b"', 'select="*"')]
    old, new = choices.choice(swaps)
    places = [found.start() for found in re.finditer(re.escape(old), main)]
    if not places:
        return main
    at = choices.choice(places)
    return main[:at] + new + main[at + len(old):]


def shuffled(seed):
    return random.Random(seed)
