"""[2.5]: how much of what is no path a path begins with."""

import random
import re
import unittest

from pathloom.errors import NotPath
from pathloom.paths import abbreviated, canonical, tokens, tree_of
from tests.second_paths import Maker, Writer, second_tree

TOLD = {
    "a b": 2, "a andb": 5, "a !": 3, "'a": 2, "count()": 6, "foo(a)": 3, "child:": 6, "up::a": 3, "a[": 2,
}
MORE = {
    # Nothing, and operands that are missing.
    "": 0, " \n": 2, "a +": 3, "a + ": 4, "-": 1, "a|": 2, "a | -b": 4, "()": 1, "(": 1, "(a": 2, "(a b": 3, "a)": 1,
    "a]": 1, "a,b": 1, "* * ": 4, "/ * 2": 4, "/ and x": 6, "a or": 4, "a or ": 5, "=": 0, ")": 0, "a = = b": 4,
    # Operators that begin or go on otherwise.
    "a an": 4, "a an b": 4, "a anx": 4, "a o": 3, "a x": 2, "a divx": 5, "a mo-d": 4, "a or-b": 4, "a or.5": 4,
    "a or:b": 4, "a and::b": 5, "1a": 2, "1b": 1, "1or2": 3, "a!": 2, "a! =b": 2, "a !b": 3, "a !!= b": 3, "!": 0,
    "a < = b": 4, "a :b": 2, "a==b": 2, "a=>b": 2,
    # Names, colons and axes.
    "a:": 2, "a:1": 2, "a:b:c": 3, "a:b::c": 3, "a::b": 2, "a ::b": 2, "child :": 7, "child :b": 7, "child:-": 6,
    "child::": 7, "child:: ": 8, "child::child::a": 13, "child::@a": 7, "child::.": 7, "child::1": 7, "@": 1, "@@a": 1,
    "@child::a": 7, "@ child ::a": 8, "@.": 1, "::a": 0, ":a": 0, "child::a:": 9, "child: :a": 6, "a-b::c": 4,
    # Variables.
    "$": 1, "$ x": 1, "$1": 1, "$'x'": 1, "$x:": 3, "$x::y": 3, "$child::y": 7, "$x y": 3, "$$x": 1, "$a:b:c": 4,
    "$x(": 2,
    # Steps and slashes.
    "//": 2, "// ": 3, "///": 2, "/ /": 2, "a//": 3, "a/": 2, "a/ ": 3, "a///b": 3, "a/1": 2, "a/.5": 3, "/.5": 2,
    "//.5": 3, "/5": 1, "a/'x'": 2, "a/(b)": 2, "a/$x": 2, "a/count(b)": 7, "a/-b": 2, "...": 2, "..5": 2, ".a": 2,
    ".b": 1, "..b": 2, ". .": 2, "a ..": 2, "/[1]": 1, ".[1]": 1, "..[1]": 2, "a/.[1]": 3, "//.[1]": 3, "a /": 3,
    "a .": 2, "1.5.": 3, "1..2": 2, "1 2": 2, "1. 5": 3, "1 .5": 2,
    # Predicates.
    "a[]": 2, "a[1": 3, "a[1 ": 4, "a[1)": 3, "a[1,2]": 3, "a[1]b": 4, "a[1]a": 5, "[1]": 0, "a[b": 3, "a[/": 3,
    # Tests by kinds.
    "text(": 5, "text('a')": 5, "text(a)": 5, "node(": 5, "node()(": 6, "comment(1)": 8, "text()a": 7, "text()b": 6,
    "processing-instruction(": 23, "processing-instruction('a": 25, "processing-instruction('a'": 26,
    "processing-instruction('a','b')": 26, "processing-instruction(a)": 23, "processing-instruction(1)": 23,
    "text::a": 5, "text ::a": 5, "child::text(": 12, "@node( ": 7, "text:()": 5,
    # Calls.
    "last(a)": 5, "last( a)": 6, "true('a": 5, "count(": 6, "count(a": 7, "count(a,b)": 7, "count(,": 6,
    "contains(a)": 10, "contains(a,b,c)": 12, "contains(a b": 11, "contains(a,)": 11, "concat()": 7, "concat(a)": 8,
    "substring(a,b,c,d)": 15, "substring(a)": 11, "translate(a,b)": 13, "name(a,b)": 6, "string(": 7, "string(a": 8,
    "foo()": 3, "foo ()": 4, "div (a)": 4, "or(a)": 2, "child::count(a)": 12, "child::id('x')": 9, "f:g(a)": 3,
    "ancestor(a)": 8, "not (": 5, "lang('x')": 4, "last( ": 6, "namespace-uri()": 13, "count::(": 6,
    # Texts in quotation marks, and what is no sign.
    "'": 1, '"': 1, "'a\"": 3, "a'": 1, "a'b'": 1, "'a'b": 3, "'a''b'": 3, "'a\x00'": 2, "'\u00e9'": 1, "a\x00": 1,
    "\u00e9": 0, "\x0b": 0, " \r": 1, "a\u00a0": 1, "#": 0, "a&b": 1, "a;": 1, "{a}": 0, "a?": 1, "a\\": 1, "a^b": 1,
    "a~": 1, "a`": 1, "'\x7f": 1, "\u0661": 0, "a\u0661": 1, "1\u0661": 1, ".\u0661": 1, "\u2003": 0,
}


def fault(text):
    """The field of the error that a text raises, None if it is a path."""
    try:
        tree_of(text)
    except NotPath as error:
        return error.at
    return None


# What may stand at the end of a beginning to make a path of it, or to make the next one of these do so.
ENDS = ["", "a", "x", "(a)", ")", "::a", ":a", "=a", "'", '"', "]", "1", ",a", ",a)", "nd a", "d a", "r a", "iv a",
        "v a", "od a", "a)", ",'')", " and a", "()", ".", "'')", "a,a)", ",a,a)"]


def completion(text):
    """A path that begins with a text, None if none was found."""
    shorter = [text]
    for _ in range(60):
        for head in shorter:
            for end in ENDS:
                if second_tree(head + end) is not None:
                    return head + end
        # A closing bracket behind an operand brings the end nearer.
        shorter = [head + end for head in shorter for end in ENDS if head + end != head and
                   fault(head + end) == len(head + end)]
        shorter = sorted(shorter, key=open_brackets)[:12]
    return None


def open_brackets(text):
    text = re.sub("'[^']*'|\"[^\"]*\"", "x", text)
    is_open = "'" in text or '"' in text
    return (is_open, sum(text.count(sign) for sign in "([") - sum(text.count(sign) for sign in ")]"), len(text))


class Faults(unittest.TestCase):
    def test_told(self):
        for text, at in {**TOLD, **MORE}.items():
            with self.subTest(text):
                self.assertEqual(fault(text), at)

    def test_each_function(self):
        for text, at in TOLD.items():
            for function in (tokens, tree_of, canonical, abbreviated):
                with self.assertRaises(NotPath) as caught:
                    function(text)
                self.assertEqual(caught.exception.at, at)

    def test_told_beginnings_are_some(self):
        for text, at in {**TOLD, **MORE}.items():
            with self.subTest(text):
                self.assertIsNotNone(completion(text[:at]))

    def test_each_beginning_of_a_path(self):
        choices = random.Random(4)
        for _ in range(400):
            text = Writer(choices).text(Maker(choices).tree(choices.choice([2, 5, 9])))
            for end in range(min(len(text), 300) + 1):
                self.assertIn(fault(text[:end]), (None, end), text[:end])

    def test_the_fault_hangs_on_the_beginning_alone(self):
        choices = random.Random(5)
        signs = "aandorivm x1.:/[]()*@$'\"=!<>|+-,\n\x00#"
        for _ in range(20000):
            text = Writer(choices).text(Maker(choices).tree(choices.choice([1, 1, 2, 4])))[:60]
            at = choices.randrange(len(text) + 1)
            text = text[:at] + choices.choice(signs) + text[at + choices.randrange(2):]
            at = fault(text)
            if at is None:
                self.assertIsNotNone(second_tree(text), text)
                continue
            self.assertIsNone(second_tree(text), text)
            self.assertIn(fault(text[:at]), (None, at), text)
            for end in range(at + 1, len(text) + 1):
                self.assertEqual(fault(text[:end]), at, text)

    def test_beginnings_can_be_completed(self):
        choices = random.Random(6)
        words = ("a b: child:: div an * / // . .. @ $x $ : [ ] ( ) , 1 .5 'x' 'x = ! < | - text( count( concat(a "
                 "last( key('a' processing-instruction( and or").split() + [" "] * 4
        for _ in range(1500):
            text = "".join(choices.choice(words) for _ in range(choices.randrange(1, 6)))
            at = fault(text)
            if at is not None:
                self.assertIsNotNone(completion(text[:at]), text[:at])


if __name__ == "__main__":
    unittest.main()
