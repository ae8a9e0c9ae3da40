"""[1.2], [1.3], [1.7]: places, kinds, names and string values."""

import unittest

from pathloom.documents import read
from pathloom.errors import BadValue, NotDocument, TreeError
from pathloom.places import kind_at, name_at, places, string_at
from tests.shown import EVERYTHING, STRANGE

TEXT = "<?p 1?><a b='2' c:d='3'>4<e f='5'>6<!--7--><g>8</g></e><![CDATA[9]]><?h i?></a><!--j-->"
ASKED = (kind_at, name_at, string_at)


class Places(unittest.TestCase):
    def test_document_order(self):
        self.assertEqual(places(read(TEXT)), [
            (), (0,), (1,), (1, "@b"), (1, "@c:d"), (1, 0), (1, 1), (1, 1, "@f"), (1, 1, 0), (1, 1, 1), (1, 1, 2),
            (1, 1, 2, 0), (1, 2), (1, 3), (2,),
        ])

    def test_attributes_come_in_the_order_in_which_they_are_written(self):
        self.assertEqual(places(read("<a z='' b='' m=''><z y=''/></a>")), [
            (), (0,), (0, "@z"), (0, "@b"), (0, "@m"), (0, 0), (0, 0, "@y"),
        ])

    def test_the_example_of_a_place(self):
        self.assertEqual(places(read('<a b=""/>')), [(), (0,), (0, "@b")])

    def test_more_than_nine_children(self):
        self.assertEqual(places(read("<a>" + "<b/>" * 12 + "</a>")), [(), (0,)] + [(0, at) for at in range(12)])

    def test_each_list_is_new(self):
        tree = read(TEXT)
        first = places(tree)
        self.assertIsNot(places(tree), first)
        first.clear()
        self.assertEqual(len(places(tree)), 15)

    def test_kinds_of_values(self):
        tree = read(EVERYTHING)
        self.assertIs(places(tree).__class__, list)
        for place in places(tree):
            self.assertIs(place.__class__, tuple)
            for part in place:
                self.assertIn(part.__class__, (int, str))
            self.assertIs(kind_at(tree, place).__class__, str)
            self.assertIs(string_at(tree, place).__class__, str)
            self.assertIn(name_at(tree, place).__class__, (str, None.__class__))

    def test_defined_in_their_file(self):
        for asked in (places, kind_at, name_at, string_at):
            self.assertEqual(asked.__module__, "pathloom.places")


class Asked(unittest.TestCase):
    def test_kinds(self):
        tree = read(TEXT)
        self.assertEqual([kind_at(tree, place) for place in places(tree)], [
            "root", "instruction", "element", "attribute", "attribute", "text", "element", "attribute", "text",
            "comment",
            "element", "text", "text", "instruction", "comment",
        ])

    def test_names(self):
        tree = read(TEXT)
        self.assertEqual([name_at(tree, place) for place in places(tree)], [
            None, "p", "a", "b", "c:d", None, "e", "f", None, None, "g", None, None, "h", None,
        ])

    def test_string_values(self):
        tree = read(TEXT)
        self.assertEqual([string_at(tree, place) for place in places(tree)], [
            "4689", "1", "4689", "2", "3", "4", "68", "5", "6", "7", "8", "8", "9", "i", "j",
        ])

    def test_string_values_of_what_is_empty(self):
        tree = read("<a><b/><!----><?c?></a>")
        self.assertEqual([string_at(tree, place) for place in places(tree)], ["", "", "", "", ""])

    def test_the_texts_of_an_element_in_document_order(self):
        tree = read("<a>1<b>2<c>3</c>4</b>5<b>6</b>7</a>")
        self.assertEqual(string_at(tree, ()), "1234567")
        self.assertEqual(string_at(tree, (0, 1)), "234")

    def test_by_names_of_arguments(self):
        tree = read(text="<a b='c'/>")
        self.assertEqual(places(tree=tree), [(), (0,), (0, "@b")])
        self.assertEqual(kind_at(tree=tree, place=(0,)), "element")
        self.assertEqual(name_at(place=(0, "@b"), tree=tree), "b")
        self.assertEqual(string_at(tree=tree, place=(0, "@b")), "c")

    def test_asking_changes_nothing(self):
        tree = read(TEXT)
        for _ in range(2):
            self.assertEqual(places(tree), places(read(TEXT)))
            self.assertEqual([string_at(tree, place) for place in places(tree)],
                             [string_at(read(TEXT), place) for place in places(read(TEXT))])


class Wrong(unittest.TestCase):
    def test_what_is_no_tree(self):
        for thing in STRANGE + [0, "", "<a/>", (), (0,), read(TEXT).root, TreeError("x"), BadValue]:
            with self.subTest(repr(thing)):
                self.assertRaises(BadValue, places, thing)
                for asked in ASKED:
                    self.assertRaises(BadValue, asked, thing, ())
                    self.assertRaises(BadValue, asked, thing, None)

    def test_what_is_no_place(self):
        tree = read(TEXT)
        for thing in STRANGE + [0, 1, -1, "", "@b", "()", [], [1], [1, "@b"], tree, read("<a/>"), NotDocument(0)]:
            with self.subTest(repr(thing)):
                for asked in ASKED:
                    self.assertRaises(BadValue, asked, tree, thing)

    def test_a_part_that_is_no_index(self):
        tree = read("<a><b/><b c='d'/></a>")
        for thing in STRANGE + ["", "0", "@", "@x", "b", "@b", (), (0,), tree]:
            with self.subTest(repr(thing)):
                for asked in ASKED:
                    self.assertRaises(BadValue, asked, tree, (thing,))
                    self.assertRaises(BadValue, asked, tree, (0, thing))
                    self.assertRaises(BadValue, asked, tree, (0, 1, thing))
                    self.assertRaises(BadValue, asked, tree, (thing, 1))

    def test_places_without_a_node(self):
        tree = read(TEXT)
        for place in ((-1,), (3,), (1, -1), (1, 4), (1, 4, 0), (1, 0, 0), (0, 0), (2, 0), (10 ** 30,), (-10 ** 30,),
                      (1, 1, 2, 0, 0), (1, 1, -1), (1, 1, 3), (1, "@b", 0), (1, "@b", "@b"), (1, -4), (True,),
                      (1, True),
                      (1, False), (1, 1.0)):
            with self.subTest(place):
                for asked in ASKED:
                    self.assertRaises(BadValue, asked, tree, place)

    def test_attributes_that_are_not_there(self):
        tree = read(TEXT)
        for place in ((1, "@x"), (1, "@f"), (1, "b"), (1, "@"), (1, "@@b"), (1, "@B"), (1, "@d"), (1, "@c"), ("@b",),
                      (0, "@p"), (1, 0, "@b"), (1, 1, "@b"), (1, "@b "), (1, b"@b"), (1, ("@b",)), (1, 1, 1, "@f")):
            with self.subTest(place):
                for asked in ASKED:
                    self.assertRaises(BadValue, asked, tree, place)

    def test_the_place_of_another_tree(self):
        self.assertEqual(kind_at(read("<a><b/></a>"), (0, 0)), "element")
        self.assertRaises(BadValue, kind_at, read("<a/>"), (0, 0))


if __name__ == "__main__":
    unittest.main()
