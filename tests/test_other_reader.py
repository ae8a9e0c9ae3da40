"""[1.5]: documents are read as another reader of XML reads them, where both speak of the same."""

import itertools
import unittest
from xml.parsers import expat

from pathloom.documents import read
from pathloom.errors import NotDocument
from pathloom.places import kind_at, name_at, places, string_at

CONTENTS = [
    "x", "]]", ">", "&lt;", "&#10;", "<![CDATA[<]]>", "<![CDATA[]]>", "<!--c-->", "<?p  q ?>", "<b/>", "<b>", "</b>",
]
TAGS = ["<a", " b='1'", " b=\"&#9;\t\"", "\n", "c = '>'", "/", ">", "</a", "<!---->", "<?p?>", "<?xml version='1.0'?>"]


class Shower:
    """The nodes of a document as the other reader tells them, but for the root's and elements' string values."""

    def __init__(self):
        self.rows = []

    def text(self, text):
        self.rows.append(("text", None, text))

    def element(self, name, attributes):
        self.rows.append(("element", name, None))
        for at in range(0, len(attributes), 2):
            self.rows.append(("attribute", attributes[at], attributes[at + 1]))

    def comment(self, text):
        self.rows.append(("comment", None, text))

    def instruction(self, name, text):
        self.rows.append(("instruction", name, text))


def other_rows(text):
    parser = expat.ParserCreate()
    parser.buffer_text = True
    parser.ordered_attributes = True
    shower = Shower()
    parser.CharacterDataHandler = shower.text
    parser.StartElementHandler = shower.element
    parser.EndElementHandler = lambda name: None
    parser.CommentHandler = shower.comment
    parser.ProcessingInstructionHandler = shower.instruction
    try:
        parser.Parse(text, True)
    except expat.ExpatError:
        return None
    return shower.rows


def own_rows(text):
    try:
        tree = read(text)
    except NotDocument:
        return None
    found = []
    for place in places(tree)[1:]:
        kind = kind_at(tree, place)
        found.append((kind, name_at(tree, place), None if kind == "element" else string_at(tree, place)))
    return found


class OtherReader(unittest.TestCase):
    def check(self, text):
        if own_rows(text) != other_rows(text):
            self.fail(f"{text!r}: {own_rows(text)}, not {other_rows(text)}")

    def test_contents(self):
        for size in range(5):
            for parts in itertools.product(CONTENTS, repeat=size):
                self.check("<a>" + "".join(parts) + "</a>")

    def test_tags(self):
        for size in range(5):
            for parts in itertools.product(TAGS, repeat=size):
                self.check("".join(parts))
                self.check("<a" + "".join(parts) + ">")


if __name__ == "__main__":
    unittest.main()
