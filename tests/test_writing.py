"""[1.6]: trees written as documents."""

import random
import unittest

from pathloom.documents import read
from pathloom.errors import BadValue
from pathloom.writing import write
from tests.shown import EVERYTHING, STRANGE, rows

SIGNS = "\t\n" + "".join(map(chr, range(32, 127)))


def made_content(choices, size):
    pieces = []
    for _ in range(choices.randrange(size)):
        sort = choices.choice(["element", "text", "comment", "instruction", "cdata"])
        text = "".join(choices.choice("a ]>-<&'\"\n\t?x") for _ in range(choices.randrange(5)))
        if sort == "element":
            attributes = "".join(f" {name}='{escaped(text)}'" for name in "bc" if choices.random() < 0.4)
            pieces.append(f"<e{attributes}>{made_content(choices, size - 1)}</e>")
        elif sort == "text":
            pieces.append(escaped(text))
        elif sort == "comment":
            pieces.append("<!--" + text.replace("-", "") + "-->")
        elif sort == "instruction":
            pieces.append("<?p " + text.replace("?", "") + "?>")
        else:
            pieces.append("<![CDATA[" + text.replace("]]>", "") + "]]>")
    return "".join(pieces)


def escaped(text):
    text = text.replace("&", "&amp;").replace("<", "&lt;").replace(">", "&gt;").replace("'", "&apos;")
    return text.replace("\n", "&#10;").replace("\t", "&#9;")


class Writing(unittest.TestCase):
    def test_each_kind(self):
        told = {
            "<a></a>": "<a/>", "<a  />": "<a/>", "<a b = '1'\n c=\"2\"/>": '<a b="1" c="2"/>', "<a>x</a >": "<a>x</a>",
            "<?xml version='1.0'?>\n<a/>\n": "<a/>", "<!--x--><a/><?p?>": "<!--x--><a/><?p?>", "<a><!----></a>": "<a><!----></a>",
            "<a><?p   q ?></a>": "<a><?p q ?></a>", "<a><?p ?></a>": "<a><?p?></a>", "<a><b/><c></c></a>": "<a><b/><c/></a>",
            "<a b='&#9;&#10;\t\n&lt;&gt;&amp;&quot;&apos;'/>": '<a b="&#9;&#10;  &lt;>&amp;&quot;\'"/>',
            "<a>\t\n&lt;&gt;&amp;&quot;&apos;]]&gt;</a>": "<a>\t\n&lt;&gt;&amp;\"']]&gt;</a>",
            "<a><![CDATA[<&>]]></a>": "<a>&lt;&amp;&gt;</a>", "<a><![CDATA[]]></a>": "<a/>", "<x:y xmlns:x='z'/>": '<x:y xmlns:x="z"/>',
            "<a p='1&#10;2'>&#60;<![CDATA[>]]></a>": '<a p="1&#10;2">&lt;&gt;</a>', "<a b=''/>": '<a b=""/>',
        }
        for text, written in told.items():
            self.assertEqual(write(read(text)), written, text)

    def test_every_sign(self):
        for sign in SIGNS.replace("%", ""):
            text = f"<a b='&#{ord(sign)};'>&#{ord(sign)};</a>"
            self.assertEqual(rows(write(read(text))), rows(text), sign)
        self.assertEqual(write(read("<a b='%'>%</a>")), '<a b="%">%</a>')

    def test_reads_back(self):
        choices = random.Random(30)
        texts = [EVERYTHING] + [f"<r>{made_content(choices, 5)}</r><!--{at}-->" for at in range(500)]
        for text in texts:
            written = write(read(text))
            self.assertEqual(rows(written), rows(text), text)
            self.assertEqual(write(read(written)), written)

    def test_large(self):
        self.assertEqual(write(read("<a>" * 3000 + "x" + "</a>" * 3000)), "<a>" * 3000 + "x" + "</a>" * 3000)
        self.assertEqual(write(read("<r>" + "<b c='1'/>" * 5000 + "</r>")), "<r>" + '<b c="1"/>' * 5000 + "</r>")

    def test_no_tree(self):
        for thing in STRANGE + ["<a/>", "", 1, (), read("<a/>").root]:
            self.assertRaises(BadValue, write, thing)
        self.assertEqual(write(tree=read("<a/>")), "<a/>")


if __name__ == "__main__":
    unittest.main()
