"""[10.3], [10.4], [10.5]: what parting and source_for tell, held against transform; plain ones against the small interpreter."""

import re
import unittest

from pathloom.documents import read
from pathloom.plain import parting, source_for
from pathloom.running import transform
from pathloom.sheets import Sheet
from tests.made_results import HEAD
from tests.plain_results import Maker, Plain, changed, documents, shuffled, written


def result(main, document):
    text = transform(Sheet(main), read(document)).text
    assert text.startswith(HEAD)
    return text[len(HEAD):]


def text_of(node):
    label, inner = node
    return f"<{label}>" + "".join(text_of(child) for child in inner) + f"</{label}>"


def plainly_written(made):
    """Content of the small interpreter, as the program writes results."""
    text = "".join(written(part) for part in made)
    return text


def unwritten(text):
    """A result written as the small interpreter's ones are."""
    return re.sub(r"<([^\s/<>]+)((?:\s[^<>]*?)?)/>", r"<\1\2></\1>", text).replace("&gt;", ">")


class Transforms(unittest.TestCase):
    def test_like_the_small_interpreter(self):
        sources = list(documents("abc", 3))
        for seed in range(120):
            choices = shuffled(seed)
            main = Maker(choices).sheet()
            plain = Plain(main)
            for node in choices.sample(sources, 12):
                told = plainly_written(plain.result(node)).replace("]]&gt;", "]]>")
                self.assertEqual(unwritten(result(main, text_of(node))), told, main)

    def test_partings(self):
        many = 0
        for seed in range(150):
            choices = shuffled(1000 + seed)
            one = Maker(choices).sheet()
            other = changed(one, choices) if seed % 3 else Maker(choices).sheet()
            try:
                found = parting(one, other)
            except ValueError:
                continue
            if found is None:
                for node in choices.sample(list(documents("ab", 3)), 8):
                    self.assertEqual(result(one, text_of(node)), result(other, text_of(node)))
            else:
                many += 1
                self.assertNotEqual(result(one, found), result(other, found), (one, other))
        self.assertGreater(many, 40)

    def test_sources(self):
        many = 0
        for seed in range(150):
            choices = shuffled(2000 + seed)
            main = Maker(choices).sheet()
            node = choices.choice(list(documents("abc", 3)))
            goal = result(main, text_of(node))
            try:
                read(goal)
            except ValueError:
                continue
            found = source_for(main, goal)
            self.assertEqual(result(main, found), goal)
            many += 1
        self.assertGreater(many, 20)


if __name__ == "__main__":
    unittest.main()
