"""The examples of the document, as far as the program has come."""

import unittest

from pathloom.documents import read
from pathloom.errors import NotDocument
from pathloom.places import places, string_at


class Examples(unittest.TestCase):
    def test_places(self):
        tree = read("<a p='1'>x<b/>y</a>")
        self.assertEqual(places(tree), [(), (0,), (0, "@p"), (0, 0), (0, 1), (0, 2)])
        self.assertEqual([string_at(tree, place) for place in places(tree)], ["xy", "xy", "1", "x", "", "y"])

    def test_no_document(self):
        with self.assertRaises(NotDocument) as caught:
            read("<a></b>")
        self.assertEqual(caught.exception.at, 5)

    def test_references_and_cdata(self):
        tree = read("<a p='1&#10;2'>&#60;<![CDATA[>]]></a>")
        self.assertEqual(places(tree), [(), (0,), (0, "@p"), (0, 0)])
        self.assertEqual([string_at(tree, (0, "@p")), string_at(tree, (0, 0))], ["1\n2", "<>"])


if __name__ == "__main__":
    unittest.main()
