"""[0.3]: documents as large as they may be, and somewhat larger."""

import unittest

from pathloom.places import kind_at, name_at, places, string_at
from pathloom.documents import read
from tests.shown import fault_at


def deep(levels, inner="x"):
    return "<a>" * levels + inner + "</a>" * levels


class Bounds(unittest.TestCase):
    def test_many_levels(self):
        for levels in (80, 200, 3000):
            tree = read(deep(levels))
            found = places(tree)
            self.assertEqual(found, [(0,) * size for size in range(levels + 2)])
            self.assertEqual(kind_at(tree, found[-1]), "text")
            self.assertEqual(name_at(tree, found[-2]), "a")
            self.assertEqual(string_at(tree, ()), "x")
            self.assertEqual(fault_at(deep(levels)[:-1]), 7 * levels)

    def test_many_nodes(self):
        for many in (5000, 20000):
            tree = read("<r>" + "<b c=''>x</b>" * (many // 3) + "</r>")
            self.assertEqual(len(places(tree)), 2 + many // 3 * 3)
            self.assertEqual(string_at(tree, (0,)), "x" * (many // 3))
            self.assertEqual(string_at(tree, (0, many // 3 - 1, 0)), "x")

    def test_many_nodes_at_many_levels(self):
        tree = read("<r>" + deep(198, "<b/>" * 10) * 96 + "</r>")
        self.assertEqual(len(places(tree)), 2 + 208 * 96)

    def test_many_attributes(self):
        text = "<r " + " ".join(f"a{at}='{at}'" for at in range(5000))
        self.assertEqual(places(read(text + "/>"))[-1], (0, "@a4999"))
        self.assertEqual(fault_at(text + " a0=''/>"), len(text) + 3)

    def test_long_texts(self):
        text = "x" * 200000
        self.assertEqual(string_at(read(f"<r>{text}</r>"), ()), text)
        self.assertEqual(string_at(read(f"<r a='{text}'/>"), (0, "@a")), text)
        self.assertEqual(name_at(read(f"<{text}></{text}>"), (0,)), text)


if __name__ == "__main__":
    unittest.main()
