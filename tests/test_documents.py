"""[1.1], [1.4], [1.5]: what each part of a document becomes in its tree."""

import unittest

from pathloom.documents import read
from pathloom.errors import BadValue
from tests.shown import EVERYTHING, STRANGE, fault_at, inner, rows

ALL_SIGNS = "\t\n" + "".join(chr(number) for number in range(32, 127))
LETTERS = "abcdefghijklmnopqrstuvwxyzABCDEFGHIJKLMNOPQRSTUVWXYZ"


class Wrong(unittest.TestCase):
    def test_what_is_no_text(self):
        for thing in STRANGE + [0, 7, (), ("<a/>",), read("<a/>"), read("<a/>").root]:
            with self.subTest(repr(thing)):
                self.assertRaises(BadValue, read, thing)

    def test_by_name(self):
        self.assertRaises(BadValue, read, text=None)
        self.assertEqual(fault_at("<"), 1)
        self.assertIsNotNone(read(text="<a/>"))

    def test_defined_in_its_file(self):
        self.assertEqual(read.__module__, "pathloom.documents")


class Around(unittest.TestCase):
    def test_the_least_document(self):
        self.assertEqual(rows("<a/>"), [((), "root", None, ""), ((0,), "element", "a", "")])

    def test_declaration_is_no_node(self):
        for declaration in ("<?xml ?>", "<?xml\n?>", "<?xml\t version='1.0'?>", "<?xml any % < & -- ]]> signs ? ?>"):
            with self.subTest(declaration):
                self.assertEqual(rows(declaration + "<a/>"), rows("<a/>"))

    def test_declaration_ends_at_the_first_end(self):
        self.assertEqual(rows("<?xml ?><?p ?><a/>")[1:2], [((0,), "instruction", "p", "")])

    def test_an_instruction_that_begins_like_a_declaration(self):
        self.assertEqual(rows("<?xmla b?><a/>")[1], ((0,), "instruction", "xmla", "b"))
        self.assertEqual(rows("<?xml-a?><a/>")[1], ((0,), "instruction", "xml-a", ""))
        self.assertEqual(rows("<?xml:a?><a/>")[1], ((0,), "instruction", "xml:a", ""))

    def test_blanks_around_are_no_nodes(self):
        self.assertEqual(rows(" \t\n<a/>\n\t "), rows("<a/>"))

    def test_comments_and_instructions_around(self):
        self.assertEqual(rows("<?p?> <!--1--><a/><!--2-->\n<?q r?>")[1:], [
            ((0,), "instruction", "p", ""), ((1,), "comment", None, "1"), ((2,), "element", "a", ""),
            ((3,), "comment", None, "2"), ((4,), "instruction", "q", "r"),
        ])


class Tags(unittest.TestCase):
    def test_closed_and_open_tags_are_alike(self):
        for text in ("<a></a>", "<a />", "<a\n\t />", "<a ></a>", "<a></a \n\t>", "<a><![CDATA[]]></a>"):
            with self.subTest(text):
                self.assertEqual(rows(text), rows("<a/>"))

    def test_elements_in_one_another(self):
        self.assertEqual(rows("<a><b><c/></b><b/></a>"), [
            ((), "root", None, ""), ((0,), "element", "a", ""), ((0, 0), "element", "b", ""),
            ((0, 0, 0), "element", "c", ""), ((0, 1), "element", "b", ""),
        ])

    def test_an_element_in_one_of_its_name(self):
        self.assertEqual([row[0] for row in rows("<a><a>x</a></a>")], [(), (0,), (0, 0), (0, 0, 0)])

    def test_names(self):
        for name in ("a", "Z", "_", "a1", "a-b", "a.b", "_.-", "a:b", "_:_", "A1.-_:z9-._", "xml", "xmlns:a", "a..",
                     LETTERS + "0123456789_-."):
            with self.subTest(name):
                self.assertEqual(rows(f"<{name}></{name}>")[1], ((0,), "element", name, ""))
                self.assertEqual(rows(f"<a {name}=''/>")[2], ((0, "@" + name), "attribute", name, ""))
                if name != "xml":
                    self.assertEqual(rows(f"<?{name}?><a/>")[1], ((0,), "instruction", name, ""))

    def test_each_letter_begins_a_name(self):
        for letter in LETTERS + "_":
            self.assertEqual(rows(f"<{letter}/>")[1], ((0,), "element", letter, ""))
            self.assertEqual(rows(f"<a:{letter}/>")[1], ((0,), "element", "a:" + letter, ""))


class Attributes(unittest.TestCase):
    def test_order_and_names(self):
        self.assertEqual(rows("<a z='1' b=\"2\"\n\tc:d = '3'  xmlns='4' />")[2:], [
            ((0, "@z"), "attribute", "z", "1"), ((0, "@b"), "attribute", "b", "2"),
            ((0, "@c:d"), "attribute", "c:d", "3"), ((0, "@xmlns"), "attribute", "xmlns", "4"),
        ])

    def test_names_that_are_nearly_alike(self):
        names = [row[2] for row in rows("<a b='' B='' ba='' b:a='' a:b='' _b=''/>")[2:]]
        self.assertEqual(names, ["b", "B", "ba", "b:a", "a:b", "_b"])

    def test_the_same_name_on_two_elements(self):
        self.assertEqual(len(rows("<a b=''><a b=''/></a>")), 5)

    def test_blanks_around_the_equals_sign(self):
        for text in ("<a b='1'/>", "<a b ='1'/>", "<a b= '1'/>", "<a b\n\t = \n\t'1'/>", "<a b='1'></a>"):
            with self.subTest(text):
                self.assertEqual(rows(text)[2], ((0, "@b"), "attribute", "b", "1"))

    def test_signs(self):
        for quote, other in (("'", '"'), ('"', "'")):
            signs = "".join(sign for sign in ALL_SIGNS if sign not in "&<" + quote)
            self.assertIn(other, signs)
            told = signs.replace("\t", " ").replace("\n", " ")
            self.assertEqual(rows(f"<a b={quote}{signs}{quote}/>")[2][3], told)

    def test_blanks_become_spaces_but_those_of_references(self):
        self.assertEqual(rows("<a b=' \t\n\t x&#9;&#10;&#32;&#x9;&#xA;\n'/>")[2][3], "     x\t\n \t\n ")

    def test_references(self):
        self.assertEqual(rows("<a b='&lt;&gt;&amp;&quot;&apos;&#60;&#x3e;'/>")[2][3], "<>&\"'<>")

    def test_what_ends_other_parts(self):
        self.assertEqual(rows("<a b=']]>--> /> ?>'/>")[2][3], "]]>--> /> ?>")

    def test_an_empty_value_is_a_node(self):
        self.assertEqual(rows("<a b=''/>")[2], ((0, "@b"), "attribute", "b", ""))


class Content(unittest.TestCase):
    def test_signs(self):
        signs = "".join(sign for sign in ALL_SIGNS if sign not in "&<")
        self.assertEqual(inner(signs), [("text", None, signs)])

    def test_blanks_stay(self):
        self.assertEqual(inner(" \t\n"), [("text", None, " \t\n")])

    def test_brackets_that_may_stand(self):
        for text in ("]", "]]", "]>", "]]]", "] ]>", ">]]", ">>", "]]\n>"):
            with self.subTest(text):
                self.assertEqual(inner(text), [("text", None, text)])
        self.assertEqual(inner("]]&gt;"), [("text", None, "]]>")])
        self.assertEqual(inner("]]&#62;"), [("text", None, "]]>")])
        self.assertEqual(inner("]&#93;>"), [("text", None, "]]>")])
        self.assertEqual(inner("]]<!---->>"), [("text", None, "]]"), ("comment", None, ""), ("text", None, ">")])
        self.assertEqual(inner("]]<b/>>")[2], ("text", None, ">"))
        self.assertEqual(inner("]]<![CDATA[]]>>"), [("text", None, "]]>")])
        self.assertEqual(inner("]<![CDATA[]>]]>"), [("text", None, "]]>")])
        self.assertEqual(inner("<b/>]>")[1], ("text", None, "]>"))
        self.assertEqual(inner("<![CDATA[x]]>]>"), [("text", None, "x]>")])

    def test_texts_that_meet_are_one(self):
        self.assertEqual(inner("a&lt;b<![CDATA[c]]>d<![CDATA[]]><![CDATA[e]]>&#33;"), [("text", None, "a<bcde!")])

    def test_what_parts_texts(self):
        self.assertEqual(inner("a<!--b-->c<?d?>e<f/>g<h>i</h>j"), [
            ("text", None, "a"), ("comment", None, "b"), ("text", None, "c"), ("instruction", "d", ""),
            ("text", None, "e"), ("element", "f", ""), ("text", None, "g"), ("element", "h", "i"),
            ("text", None, "i"), ("text", None, "j"),
        ])

    def test_no_text_is_empty(self):
        self.assertEqual(inner("<![CDATA[]]>"), [])
        self.assertEqual(inner("<![CDATA[]]><b/><![CDATA[]]>"), [("element", "b", "")])
        self.assertEqual(inner("<b><![CDATA[]]></b>"), [("element", "b", "")])

    def test_cdata(self):
        self.assertEqual(inner("<![CDATA[ <&lt;]]&gt;<!--x--> ]]>"), [("text", None, " <&lt;]]&gt;<!--x--> ")])
        self.assertEqual(inner("<![CDATA[]]]]>"), [("text", None, "]]")])
        self.assertEqual(inner("<![CDATA[]>]]>"), [("text", None, "]>")])
        self.assertEqual(inner("<![CDATA[<![CDATA[]]>"), [("text", None, "<![CDATA[")])
        signs = ALL_SIGNS.replace("]", "")
        self.assertEqual(inner(f"<![CDATA[{signs}]]>"), [("text", None, signs)])


class References(unittest.TestCase):
    def test_by_name(self):
        self.assertEqual(inner("&lt;&gt;&amp;&quot;&apos;"), [("text", None, "<>&\"'")])

    def test_what_they_stand_for_is_not_read_again(self):
        self.assertEqual(inner("&amp;lt;&#38;lt;&#60;b/>"), [("text", None, "&lt;&lt;<b/>")])

    def test_by_number(self):
        for number in range(0, 300):
            named = number in (9, 10) or 32 <= number <= 126 and number != 37
            for reference in (f"&#{number};", f"&#00{number};", f"&#x{number:x};", f"&#x{number:X};",
                              f"&#x000{number:x};"):
                with self.subTest(reference):
                    if named:
                        self.assertEqual(inner(reference), [("text", None, chr(number))])
                        self.assertEqual(rows(f"<a b='{reference}'/>")[2][3], chr(number))
                    else:
                        self.assertIsNotNone(fault_at(f"<a>{reference}</a>"))
                        self.assertIsNotNone(fault_at(f"<a b='{reference}'/>"))

    def test_many_zeros(self):
        self.assertEqual(inner("&#" + "0" * 58 + "65;&#x" + "0" * 58 + "6f;"), [("text", None, "Ao")])


class CommentsAndInstructions(unittest.TestCase):
    def test_comments(self):
        for text in ("", "x", " x ", ">", "->", "-x", "a-b", "- - x", "<b/>&", "]]>", "?>", "%", "\t\n",
                     ALL_SIGNS):
            with self.subTest(text):
                self.assertEqual(inner(f"<!--{text}-->"), [("comment", None, text)])

    def test_instructions(self):
        for written, name, text in (
            ("<?a?>", "a", ""), ("<?a ?>", "a", ""), ("<?a \t\n?>", "a", ""), ("<?a b?>", "a", "b"),
            ("<?a \n\t b c ?>", "a", "b c "), ("<?a ??>", "a", "?"), ("<?a ? >?>", "a", "? >"),
            ("<?a >?>", "a", ">"), ("<?a:b c?>", "a:b", "c"), ("<?a -- <&% ]]> ?>", "a", "-- <&% ]]> "),
            ("<?xm l?>", "xm", "l"), ("<?xmll?>", "xmll", ""), ("<?xml:xml?>", "xml:xml", ""),
            ("<?a " + ALL_SIGNS.strip() + "?>", "a", ALL_SIGNS.strip()),
        ):
            with self.subTest(written):
                self.assertEqual(inner(written), [("instruction", name, text)])


class Trees(unittest.TestCase):
    def test_everything(self):
        self.assertEqual(rows(EVERYTHING), [
            ((), "root", None, "x]]>%<&]&/t\"~'"),
            ((0,), "comment", None, " c - c "),
            ((1,), "instruction", "p", "q ? "),
            ((2,), "element", "a:b", "x]]>%<&]&/t\"~'"),
            ((2, "@c"), "attribute", "c", "1"),
            ((2, "@d"), "attribute", "d", "<'\t "),
            ((2, "@e_-.1:f"), "attribute", "e_-.1:f", '%">'),
            ((2, 0), "text", None, "x]]>%<&]&/"),
            ((2, 1), "element", "b", ""),
            ((2, 2), "text", None, "t"),
            ((2, 3), "element", "b", ""),
            ((2, 4), "text", None, '"'),
            ((2, 5), "instruction", "q", ""),
            ((2, 6), "comment", None, ""),
            ((2, 7), "element", "c", "~"),
            ((2, 7, 0), "element", "c2", "~"),
            ((2, 7, 0, 0), "text", None, "~"),
            ((2, 8), "text", None, "'"),
            ((3,), "comment", None, "x"),
            ((4,), "instruction", "z", "y"),
        ])

    def test_each_reading_is_a_tree_of_its_own(self):
        self.assertIsNot(read("<a/>"), read("<a/>"))
        self.assertEqual(rows(EVERYTHING), rows(EVERYTHING))


if __name__ == "__main__":
    unittest.main()
