"""[1.5]: every beginning of documents, and documents with faults, against what tests/beginnings.py tells."""

import itertools
import unittest

from tests.beginnings import longest_beginning
from tests.shown import EVERYTHING, fault_at

DOCUMENTS = [
    EVERYTHING,
    "<a/>",
    "<?xmla b?><a b='1' b:c=\"2\" bc = '&#x7E;&#38;'/> ",
    "<xml xml='1'><?xm l?>&#x000041;&#0065;&#125;]] ><![CDATA[]]]]>&apos;&quot;</xml>\n",
    "<!-- - --><a><a><a/></a >x</a><?xml-a ???><!--->-->",
]
SIGNS = " \n!#%&'\"-./:;<=>?[]_0129abclmxADX\r\x7f"


class Beginnings(unittest.TestCase):
    def check(self, text):
        told = fault_at(text)
        wanted = longest_beginning(text)
        if told is None:
            told = len(text)
        if told != wanted:
            self.fail(f"{text!r}: {told}, not {wanted}")

    def test_every_beginning(self):
        for text in DOCUMENTS:
            self.assertIsNone(fault_at(text))
            for size in range(len(text)):
                self.assertIn(fault_at(text[:size]), (size, None), text[:size])
                self.check(text[:size])

    def test_a_beginning_is_read_only_behind_the_outermost_element(self):
        text = "<?xml ?> <!--x--><a><b c='d'/></a> <!--y--><?z?>\n"
        end = text.index("</a>") + 4
        read = [size for size in range(len(text) + 1) if fault_at(text[:size]) is None]
        self.assertEqual(read, [end, end + 1, text.index("<?z"), len(text) - 1, len(text)])

    def test_a_sign_put_in_left_out_or_exchanged(self):
        for text in DOCUMENTS:
            for at in range(len(text) + 1):
                self.check(text[:at] + text[at + 1:])
                for sign in SIGNS:
                    self.check(text[:at] + sign + text[at:])
                    self.check(text[:at] + sign + text[at + 1:])

    def test_a_part_left_out_or_put_elsewhere(self):
        text = DOCUMENTS[2] + DOCUMENTS[4]
        for begin, end in itertools.combinations(range(0, len(text) + 1, 2), 2):
            self.check(text[:begin] + text[end:])
            self.check(text[end:] + text[begin:end] + text[:begin])

    def test_all_short_texts_in_some_parts(self):
        for ahead, signs, behind in (
            ("", "<a/>? ", ""), ("<", "!-?>ax", "--><a/>"), ("<a", " b='/>", "></a>"), ("<a>", "]>&<![", "</a>"),
            ("<a>&", "#x0127f;", ";</a>"), ("<a><!", "-[>C ", "--></a>"), ("<a/>", "<?x! >", ""), ("<a:b><",
                                                                                                   "/a:b >", ">"),
            ("<?", "xml?> ", "?><a/>"),
        ):
            for size in range(5):
                for between in itertools.product(signs, repeat=size):
                    self.check(ahead + "".join(between) + behind)


if __name__ == "__main__":
    unittest.main()
