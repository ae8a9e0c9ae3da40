"""[7]: drawn stylesheets, held against a second interpreter; and what holds of all results."""

import random
import sys
import unittest

from pathloom.documents import read
from pathloom.errors import Failed
from pathloom.places import places
from pathloom.running import transform
from pathloom.sheets import Sheet
from tests.drawn_sheets import SheetDrawer
from tests.edit_model import drawn_document
from tests.made_results import HEAD
from tests.second_sheets import Second

DOCUMENTS = {"d": "<d k='1'><a k='2'/><b/></d>"}


class Drawn(unittest.TestCase):
    def setUp(self):
        self.limit = sys.getrecursionlimit()
        sys.setrecursionlimit(10000)
        self.addCleanup(sys.setrecursionlimit, self.limit)

    def test_like_the_second_interpreter(self):
        choices = random.Random(80)
        counts = {}
        for _ in range(700):
            main, other = SheetDrawer(choices).sheet()
            one = Sheet(main, {"i": other})
            for _ in range(2):
                text = drawn_document(choices)
                documents = {name: read(DOCUMENTS[name]) for name in DOCUMENTS}
                try:
                    result = transform(one, read(text), {"p": "P"}, documents)
                    found = (result.text, result.messages)
                    self.check_origins(result)
                except Failed as error:
                    found = error.fault
                told = Second(main, other, read(text), {"p": "P"}, documents).outcome()
                self.assertEqual(found, told, (main, other, text))
                sort = found if isinstance(found, str) else "result"
                counts[sort] = counts.get(sort, 0) + 1
        self.assertGreater(counts["result"], 800)
        self.assertGreater(counts["deep"], 10)

    def check_origins(self, result):
        """The origins tell all nodes of the result, in their order."""
        back = read("<w>" + result.text[len(HEAD):] + "</w>")
        self.assertEqual([place[1:] for place in places(back)[2:]], [row[0] for row in result.origins])


if __name__ == "__main__":
    unittest.main()
