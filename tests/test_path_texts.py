"""[2.8], [2.9]: canonical and abbreviated texts."""

import random
import re
import unittest

from pathloom.paths import abbreviated, canonical, tokens, tree_of
from tests.second_paths import Maker, Writer

CANONICAL = {
    "a": "child::a", "@a": "attribute::a", ".": "self::node()", "..": "parent::node()", "/": "/",
    "//a[1]/@b - 2": "/descendant-or-self::node()/child::a[1]/attribute::b - 2",
    "a//b": "child::a/descendant-or-self::node()/child::b",
    "a  or\tb": "child::a or child::b", "a=b": "child::a = child::b", "1<=2": "1 <= 2", "a|b": "child::a | child::b",
    "- 1": "-1", "- - 1": "--1", "1 - -1": "1 - -1", "1--1": "1 - -1",
    "concat( 'a' ,\"b\",'c' )": "concat('a', 'b', 'c')", '"it\'s"': '"it\'s"', "'a\"b'": "'a\"b'", '""': "''",
    "processing-instruction( \"x\" )": "child::processing-instruction('x')",
    "processing-instruction(\"x'\")": 'child::processing-instruction("x\'")', "text( )": "child::text()",
    ".50": "0.5", "007.": "7", "$ab:c": "$ab:c", "true ( )": "true()",
    # Operands of operators.
    "(a or b) and c": "(child::a or child::b) and child::c", "a or (b and c)": "child::a or child::b and child::c",
    "(a - b) - c": "child::a - child::b - child::c", "a - (b - c)": "child::a - (child::b - child::c)",
    "a - (b * c)": "child::a - child::b * child::c", "(a - b) * c": "(child::a - child::b) * child::c",
    "a = (b = c)": "child::a = (child::b = child::c)", "(a = b) != c": "child::a = child::b != child::c",
    "a < (b <= c)": "child::a < (child::b <= child::c)", "a | (b | c)": "child::a | (child::b | child::c)",
    "(a | b) | c": "child::a | child::b | child::c", "(a + b) | c": "(child::a + child::b) | child::c",
    "a or (b or c)": "child::a or (child::b or child::c)", "a div (b mod c)": "child::a div (child::b mod child::c)",
    # Minus.
    "-(a | b)": "-child::a | child::b", "-(a * b)": "-(child::a * child::b)", "-(a or b)": "-(child::a or child::b)",
    "(-a) | b": "(-child::a) | child::b", "a | (-b)": "child::a | (-child::b)", "(-a) * b": "-child::a * child::b",
    "-(-a)": "--child::a", "a * (-b)": "child::a * -child::b", "(-a) + b": "-child::a + child::b",
    # A slash at the end of a left operand.
    "(/) * 2": "(/) * 2", "(/) and 2": "(/) and 2", "(/) or 2": "(/) or 2", "(/) div 2": "(/) div 2",
    "(/) mod 2": "(/) mod 2", "(/) + 2": "/ + 2", "(/) = 2": "/ = 2", "(/) | a": "/ | child::a", "2 * (/)": "2 * /",
    "(2 * /) * 3": "(2 * /) * 3", "(a | /) * 3": "(child::a | /) * 3", "(1 + /) or 2": "(1 + /) or 2",
    "(-/) and 2": "(-/) and 2", "2 and (/)": "2 and /", "(1 = /) + 3": "(1 = /) + 3", "(/) < 2": "/ < 2",
    # What has predicates or steps behind it.
    "(a)[1]": "(child::a)[1]", "(a)/b": "(child::a)/child::b", "(a)[1]/b": "(child::a)[1]/child::b",
    "($x)[1]": "$x[1]", "('t')[1]": "'t'[1]", "(1)[1]": "1[1]", "(last())[1]": "last()[1]", "($x)/a": "$x/child::a",
    "('t')/a": "'t'/child::a", "(1)/a": "1/child::a", "(id('x'))/a": "id('x')/child::a",
    "($x[1])[2]": "($x[1])[2]", "($x[1])/a": "$x[1]/child::a", "(a | b)[1]": "(child::a | child::b)[1]",
    "(a | b)/c": "(child::a | child::b)/child::c", "(-a)[1]": "(-child::a)[1]", "(/)[1]": "(/)[1]",
    "(/)/a": "(/)/child::a", "((a)/b)/c": "((child::a)/child::b)/child::c", "((a))": "child::a",
    "a[(b)]": "child::a[child::b]", "count((a))": "count(child::a)",
}
ABBREVIATED = {
    "child::a": "a", "attribute::a": "@a", "self::node()": ".", "parent::node()": "..", "child::node()": "node()",
    "attribute::node()": "@node()", "child::*": "*", "attribute::*[child::a]": "@*[a]",
    "self::node()[1]": "self::node()[1]", "parent::node()[1]": "parent::node()[1]", "self::*": "self::*",
    "self::text()": "self::text()", "parent::a": "parent::a",
    "/descendant-or-self::node()/child::a": "//a", "a/descendant-or-self::node()/@b": "a//@b",
    "descendant-or-self::node()/a": "descendant-or-self::node()/a",
    "/descendant-or-self::node()": "/descendant-or-self::node()",
    "a/descendant-or-self::node()": "a/descendant-or-self::node()",
    "/descendant-or-self::node()[1]/a": "/descendant-or-self::node()[1]/a",
    "/descendant-or-self::*/a": "/descendant-or-self::*/a",
    "a//descendant-or-self::node()/b": "a//descendant-or-self::node()/b",
    "a//descendant-or-self::node()//b": "a//descendant-or-self::node()//b",
    "a//descendant-or-self::node()": "a//descendant-or-self::node()", "//.": "//.", ".//..": ".//..",
    "descendant-or-self::node()//a": "descendant-or-self::node()//a",
    "$x/descendant-or-self::node()/a": "$x//a", "(a)//b": "(a)//b", "a[//b]": "a[//b]", "-/": "-/",
    "(/) * 2": "(/) * 2", "(/child::*) * 2": "/* * 2", "* * *": "* * *", "a - b": "a - b", "-a": "-a",
    "ancestor::a[child::b | @c]": "ancestor::a[b | @c]", "namespace::a": "namespace::a",
}


class Texts(unittest.TestCase):
    def test_canonical(self):
        for text, told in CANONICAL.items():
            with self.subTest(text):
                self.assertEqual(canonical(text), told)

    def test_abbreviated(self):
        for text, told in ABBREVIATED.items():
            with self.subTest(text):
                self.assertEqual(abbreviated(text), told)

    def test_both_read_back_and_are_their_own(self):
        choices = random.Random(7)
        for size in (2, 4, 8, 16):
            for _ in range(500):
                tree = Maker(choices).tree(size)
                text = Writer(choices).text(tree)
                long, short = canonical(text), abbreviated(text)
                self.assertEqual(tree_of(long), tree)
                self.assertEqual(tree_of(short), tree)
                self.assertEqual((canonical(long), canonical(short)), (long, long))
                self.assertEqual((abbreviated(long), abbreviated(short)), (short, short))

    def test_no_brackets_are_needless(self):
        choices = random.Random(8)
        for _ in range(1500):
            text = canonical(Writer(choices).text(Maker(choices).tree(6)))
            tree = tree_of(text)
            for start, end in groups(text):
                inner = text[start + 1:end]
                without = text[:start] + " " + inner + " " + text[end + 1:]
                try:
                    self.assertNotEqual(tree_of(without), tree, text)
                except ValueError:
                    pass

    def test_blanks(self):
        choices = random.Random(9)
        for _ in range(500):
            text = canonical(Writer(choices).text(Maker(choices).tree(8)))
            bare = re.sub("'[^']*'|\"[^\"]*\"", lambda found: "x" * len(found.group()), text)
            self.assertNotRegex(bare, r"  |\n|\t|\( | \)|\[ | \]|,[^ ]| ,|\A | \Z")


def groups(text):
    """The indexes of all pairs of brackets that are no brackets of calls and tests."""
    found, rows = [], []
    before = None
    for sort, word, place in tokens(text):
        if (sort, word) == ("sign", "("):
            found.append((place, before == "name"))
        elif (sort, word) == ("sign", ")"):
            start, is_call = found.pop()
            if not is_call:
                rows.append((start, place))
        before = "operator" if word in ("and", "or", "div", "mod") and text[place - 1:place] == " " else sort
    return rows


if __name__ == "__main__":
    unittest.main()
