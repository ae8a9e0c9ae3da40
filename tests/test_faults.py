"""[1.5]: how far a text that is no document goes like one."""

import unittest

from tests.shown import fault_at

# Each text has a bar at the sign with which no document goes on, and none within.
PARTS = {
    "the first sign": [
        "|x<a/>", "|&lt;", "|/a>", "|]", "|>", "|\r<a/>", "|\x00", "|\ufeff<a/>", " |x", "\n\t |a",
    ],
    "behind the first bracket": [
        "<| a/>", "<|1/>", "<|>", "<|/a>", "<|-a/>", "<|.a/>", "<|:a/>", "<|<a/>", "<|'a'/>", "<|=", "<|&",
        "<|]",
    ],
    "a declaration": [
        "<?xml|?><a/>", "<?xml|/><a/>", "<?xml|", "<?XML| ?><a/>", "<?Xml|\n?><a/>", "<?xmL|?>",
        " <?xml| ?><a/>", "\n<?xml| version='1.0'?><a/>", "<?xml ?><?xml| ?><a/>", "<!----><?xml| ?><a/>",
        "<a/><?xml| ?>", "<a><?xml| ?></a>", "<?xml a ?> |x", "<?xml |\r?><a/>", "<?xml ?><?XmL|?><a/>",
        "<?|?xml ?><a/>", "<?| xml ?><a/>",
    ],
    "what stands around": [
        "<!|a/>", "<!|[CDATA[x]]><a/>", "<!|DOCTYPE a><a/>", "<!-|a", "<?|1?>", "<?|>", "<a/><|b/>",
        "<a/><|a/>", "<a></a><|/a>", "<a/>|x", "<a/>|&lt;", "<a/> \n|]", "<a/><!|[CDATA[]]>",
        "<!----> <?p?><a/>\n<!-- --><?p?><|b/>", "<!---->|x<a/>", "<a/>|>", "<a/>|\x7f",
    ],
    "a name": [
        "<a|!/>", "<a|%/>", "<a|é/>", "<a|\r/>", "<a:|/>", "<a:|1/>", "<a:|:b/>", "<a:b|:c/>", "<a:|>",
        "<a:| b/>", "<a|+b/>", "<a|,/>", "<a |1='x'/>", "<a |:b='x'/>", "<a b:|='x'/>", "<a b:c|:d='x'/>",
        "<a b|/>", "<a b|>", "<?a|!?>", "<?a:|?>", "<?a:b|:c?>", "<?a|/>", "<?a|>", "<?a:| b?>",
    ],
    "a tag": [
        "<a/|a>", "<a/| >", "<a/|/>", "<a|'b'/>", "<a|=''/>", "<a |=''/>", "<a b|'x'/>", "<a b |c='x'/>",
        "<a b |/>", "<a b=|x/>", "<a b= |x/>", "<a b=|>", "<a b=|=''/>", "<a b='x'|c='y'/>", "<a b='x'|'/>",
        "<a b='x'|\"/>", "<a b='x' |'y'/>", "<a b='x' /|x>", "<a|<b/>", "<a |<b/>", "<a b='x'|<b/>",
        "<a|&lt;/>", "<a |\r/>",
    ],
    "an attribute": [
        "<a b='|<'/>", "<a b='x|<y'/>", "<a b=\"|<\"/>", "<a b='|\r'/>", "<a b='&|'/>", "<a b='&| '/>",
        "<a b='&lt|'/>", "<a b='|\x00'/>", "<a b=''|'/>",
    ],
    "an attribute twice": [
        "<a b='' b|=''/>", "<a b='' b| =''/>", "<a b='' c='' b|=''/>", "<a b='' b|/>", "<a b='' b|>",
        "<a b:c='' b:c|=''/>", "<a b='' b:|=''/>", "<a bc='' b='' bc|=''/>", "<r><a b='' b|='/></r>",
    ],
    "a content": [
        "<a>]]|></a>", "<a>x]]]|></a>", "<a>]]|>]]></a>", "<a><b/>]]|></a>", "<a>&lt;]]|></a>",
        "<a><![CDATA[]]>]]|></a>", "<a>|\r</a>", "<a>x|\x00y</a>", "<a>|é</a>", "<a>|\x7f</a>",
        "<a><| b/></a>", "<a><|></a>", "<a><|1/></a>", "<a><|<b/></a>", "<a><!|a></a>", "<a><|&lt;</a>",
        "<a><!--]]>-->]]|></a>",
    ],
    "an end tag": [
        "<a></|b>", "<ab></a|>", "<a></a|b>", "<a></| a>", "<a></|>", "<a></a |b>", "<a></|A>", "<a></a|/>",
        "<a></a|:b>", "<a:b></a|>", "<a:b></a:|c>", "<a:b></a:b|c>", "<a><b></|a></b>", "<a><b></b></|b>",
        "<a><b/></|b></a>", "<abc></ab|d>", "<a></a\n|x>", "<a></a|<", "<a></a|&",
    ],
    "a reference": [
        "<a>&|;</a>", "<a>&| lt;</a>", "<a>&|x;</a>", "<a>&l|e;</a>", "<a>&lt|</a>", "<a>&lt| ;</a>",
        "<a>&a|;</a>", "<a>&am|;</a>", "<a>&ap|p;</a>", "<a>&amp|</a>", "<a>&|LT;</a>", "<a>&qu|it;</a>",
        "<a>&|nbsp;</a>", "<a>&g|g;</a>", "<a>&apo|;</a>", "<a>&quot|e;</a>", "<a>&|<b/></a>", "<a>&|&lt;</a>",
    ],
    "the number of a reference": [
        "<a>&#|;</a>", "<a>&#| 65;</a>", "<a>&#|a;</a>", "<a>&#|X41;</a>", "<a>&#|-1;</a>", "<a>&#65| ;</a>",
        "<a>&#65|a;</a>", "<a>&#65|</a>", "<a>&#x|;</a>", "<a>&#x|g;</a>", "<a>&#x4|g;</a>", "<a>&#x|x41;</a>",
        "<a>&#x41|</a>", "<a>&#0|;</a>", "<a>&#x0|;</a>", "<a>&#00|a;</a>", "<a>&#0|x41;</a>", "<a>&#1|;</a>",
        "<a>&#1|3;</a>", "<a>&#|2;</a>", "<a>&#|20;</a>", "<a>&#0|29;</a>", "<a>&#3|;</a>", "<a>&#3|1;</a>",
        "<a>&#8|;</a>", "<a>&#11|;</a>", "<a>&#12|;</a>", "<a>&#12|7;</a>", "<a>&#12|8;</a>", "<a>&#1|3</a>",
        "<a>&#9|</a>", "<a>&#99|9;</a>", "<a>&#126|0;</a>", "<a>&#32|0;</a>", "<a>&#x|1;</a>",
        "<a>&#x|1f;</a>", "<a>&#x2|;</a>", "<a>&#x7|;</a>", "<a>&#x7|f;</a>", "<a>&#x7|F;</a>",
        "<a>&#x|8;</a>", "<a>&#x9|0;</a>", "<a>&#xA|0;</a>", "<a>&#x|B;</a>", "<a>&#x|D;</a>",
        "<a>&#x00|d;</a>", "<a>&#x20|0;</a>", "<a>&#xa|a;</a>", "<a b='&#|2'/>", "<a b='&#x|;'/>",
        "<a b='&#3|;'/>",
    ],
    "the percent sign by a number": [
        "<a>&#3|7;</a>", "<a>&#003|7;</a>", "<a>&#x2|5;</a>", "<a>&#x002|5;</a>", "<a b='&#3|7;'/>",
        "<a b='&#x2|5;'/>",
    ],
    "a comment": [
        "<a><!|x--></a>", "<a><!-|x--></a>", "<!-|></a>", "<a><!-- --|x</a>", "<a><!-- --| ></a>",
        "<a><!----|-></a>", "<a><!--x--|--></a>", "<a><!--x--|-></a>", "<a><!-- |\r--></a>",
        "<!--x--|x--><a/>", "<!--|\x00--><a/>", "<!--- --|-", "<a/><!-- --|!>", "<a><!| --></a>",
    ],
    "an instruction": [
        "<a><?| b?></a>", "<a><?|?></a>", "<a><?b?|x></a>", "<a><?b?| ></a>", "<a><?b?|?></a>", "<a><?b|></a>",
        "<a><?b |\r?></a>", "<a><?xml|?></a>", "<a><?XML| x?></a>", "<a><?xMl|\t?></a>", "<a><?b|<",
        "<?b|'x'?>", "<?b \n|\x0b?><a/>", "<a><?xml|></a>",
    ],
    "a CDATA part": [
        "<a><!|CDATA[x]]></a>", "<a><![|cdata[x]]></a>", "<a><![C|data[]]></a>", "<a><![CDATA|x]]></a>",
        "<a><![CDATA| []]></a>", "<a><![CDATA[|\r]]></a>", "<a><![CDATA[ x |\x1f]]></a>", "<a><![|[]]></a>",
        "<a><![CDATA[]]>]]|></a>", "<a><![CDATA[]]]]>]]|></a>",
    ],
}

# Texts that stop too early: some document begins with each of them.
EARLY = [
    "", " ", "\n\t ", "<", "<?", "<?x", "<?xml", "<?xml ", "<?xml version='1.0'?", "<?xml ?>", "<?xml ?",
    "<?xml ?? a", "<?XML", " <?xml", "<?a", "<?a:", "<?a:b", "<?a?", "<?a ", "<?a b", "<?a b?", "<?a b?>",
    "<!", "<!-", "<!--", "<!---", "<!----", "<!---->", "<!-->", "<!--->", "<!-- -", "<!-- a -->", "<a", "<a:",
    "<a:b", "<a ", "<a/", "<a /", "<a b", "<a b:", "<a b ", "<a b=", "<a b= ", "<a b='", "<a b=\"", "<a b='x",
    "<a b='x\"", "<a b=\"'", "<a b='>", "<a b='/>", "<a b='&", "<a b='&#", "<a b='&#x", "<a b='&lt",
    "<a b='&lt;", "<a b=''", "<a b='' ", "<a b='' b", "<a b='' b:", "<a b='' /", "<a>", "<a b=''>", "<a>x",
    "<a>]", "<a>]]", "<a><", "<a></", "<a></a", "<a></a ", "<ab></a", "<a:b></a:", "<a><b>", "<a><b/>",
    "<a><b></b>", "<a><b></", "<a><b></b", "<a>&", "<a>&l", "<a>&lt", "<a>&g", "<a>&gt", "<a>&a", "<a>&am",
    "<a>&amp", "<a>&ap", "<a>&apo", "<a>&apos", "<a>&q", "<a>&qu", "<a>&quo", "<a>&quot", "<a>&#", "<a>&#0",
    "<a>&#00", "<a>&#1", "<a>&#10", "<a>&#12", "<a>&#3", "<a>&#65", "<a>&#9", "<a>&#x", "<a>&#x0", "<a>&#x2",
    "<a>&#x7", "<a>&#x7e", "<a>&#xA", "<a>&#xa", "<a>&lt;", "<a><!", "<a><!-", "<a><!--", "<a><!--x-",
    "<a><!--x--", "<a><![", "<a><![C", "<a><![CDATA", "<a><![CDATA[", "<a><![CDATA[]", "<a><![CDATA[]]",
    "<a><![CDATA[]]]", "<a><![CDATA[]]>", "<a><![CDATA[</a>", "<a><?", "<a><?b", "<a><?b ", "<a><?b ?",
    "<a><?b ?></a", "<a/><", "<a/><!", "<a/><!--", "<a/><?", "<a/><?b", "<a/> <?xml", "<a><?xml", "<a b='/a>",
]


class Faults(unittest.TestCase):
    def test_where_no_document_goes_on(self):
        for part, texts in PARTS.items():
            for marked in texts:
                at = marked.index("|")
                text = marked.replace("|", "", 1)
                with self.subTest(part, text=text):
                    self.assertEqual(fault_at(text), at)
                    # What stands behind the fault has no weight, and what is ahead of it goes on.
                    self.assertEqual(fault_at(text[:at + 1]), at)
                    self.assertEqual(fault_at(text[:at + 1] + "/></a>"), at)
                    self.assertIn(fault_at(text[:at]), (at, None))

    def test_texts_that_stop_too_early(self):
        for text in EARLY:
            with self.subTest(text):
                self.assertEqual(fault_at(text), len(text))

    def test_behind_the_outermost_element(self):
        for behind in ("", " ", "\n<!-- -->", "<?b?>\t"):
            with self.subTest(behind):
                text = "<a/>" + behind
                self.assertIsNone(fault_at(text))
                self.assertEqual(fault_at(text + "x"), len(text))
                self.assertEqual(fault_at(text + "<b/>"), len(text) + 1)
                self.assertEqual(fault_at(text + "&lt;"), len(text))

    def test_what_is_no_sign(self):
        for character in ("\r", "\x00", "\x0b", "\x0c", "\x1f", "\x7f", "\x80", "\xa0", "\xe9", "\u2028", "\u0410",
                          "\ud800",
                          "\U0001f600"):
            for ahead in ("", "<?xml ", "<!--", "<?a ", "<", "<a", "<a ", "<a b='", "<a>", "<a>&", "<a>&#",
                          "<a><![CDATA[",
                          "<a></", "<a/>", "<a/> <!-- "):
                for behind in ("", "<a/>", "-->", "/></a>"):
                    with self.subTest(repr(character), ahead=ahead):
                        self.assertEqual(fault_at(ahead + character + behind), len(ahead))

    def test_an_earlier_fault_counts(self):
        self.assertEqual(fault_at("<a></b>\r"), 5)
        self.assertEqual(fault_at("<a>\r</b>"), 3)
        self.assertEqual(fault_at("<!-- -- \r -->"), 7)

    def test_the_example(self):
        self.assertEqual(fault_at("<a></b>"), 5)


if __name__ == "__main__":
    unittest.main()
