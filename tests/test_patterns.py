"""[5.1], [5.3], [5.4]: patterns, their canonical texts and priorities, and what is none."""

import random
import unittest

from pathloom.errors import BadValue, NotPath, NotPattern
from pathloom.matching import alternatives_of, pattern_text
from pathloom.paths import canonical, tree_of
from tests.second_paths import Maker, Writer, second_tree
from tests.shown import STRANGE

# Alternatives with their canonical texts and priorities.
ALTERNATIVES = {
    "a": ("child::a", "0"), "child :: a": ("child::a", "0"), "@a": ("attribute::a", "0"),
    "attribute::a:b": ("attribute::a:b", "0"), "*": ("child::*", "-0.5"), "@*": ("attribute::*", "-0.5"),
    "node()": ("child::node()", "-0.5"), "@node()": ("attribute::node()", "-0.5"), "text()": ("child::text()", "-0.5"),
    "comment()": ("child::comment()", "-0.5"), "processing-instruction( )": ("child::processing-instruction()", "-0.5"),
    'processing-instruction( "x" )': ("child::processing-instruction('x')", "0"),
    "processing-instruction('')": ("child::processing-instruction('')", "0"),
    "@processing-instruction('x')": ("attribute::processing-instruction('x')", "0"),
    "/": ("/", "0.5"), "/a": ("/child::a", "0.5"), "//a": ("//child::a", "0.5"), "//*": ("//child::*", "0.5"),
    "//@*": ("//attribute::*", "0.5"), "a/b": ("child::a/child::b", "0.5"), "a//@b": ("child::a//attribute::b", "0.5"),
    "/a//b/c": ("/child::a//child::b/child::c", "0.5"), "a[1]": ("child::a[1]", "0.5"),
    "*[@x][last( )]": ("child::*[attribute::x][last()]", "0.5"), "@a[.='x']": ("attribute::a[self::node() = 'x']", "0.5"),
    "a[//b]": ("child::a[/descendant-or-self::node()/child::b]", "0.5"),
    "a[b//c]//d": ("child::a[child::b/descendant-or-self::node()/child::c]//child::d", "0.5"),
    "id ( \"x\" )": ("id('x')", "0.5"), "key('n',\"w'\")": ("key('n', \"w'\")", "0.5"), "id('x')/a": ("id('x')/child::a", "0.5"),
    "id('x')//@a": ("id('x')//attribute::a", "0.5"), "key('n','w')/a[2]//b": ("key('n', 'w')/child::a[2]//child::b", "0.5"),
    "key": ("child::key", "0"), "id": ("child::id", "0"), "key/id": ("child::key/child::id", "0.5"),
    "@key": ("attribute::key", "0"), "div": ("child::div", "0"), "and/or": ("child::and/child::or", "0.5"),
    "child": ("child::child", "0"), "self": ("child::self", "0"), "current": ("child::current", "0"),
    "a[key('n', @x)]": ("child::a[key('n', attribute::x)]", "0.5"), "@a/b": ("attribute::a/child::b", "0.5"),
    "a[ancestor::b/..]": ("child::a[ancestor::b/parent::node()]", "0.5"),
    "a[current]": ("child::a[child::current]", "0.5"), "a[(b)[1]]": ("child::a[(child::b)[1]]", "0.5"),
    "text()[2]": ("child::text()[2]", "0.5"), "a [ 007 ]": ("child::a[7]", "0.5"),
}
FAULTS = {
    "": 0, " ": 1, "a|": 2, "a | ": 4, "|a": 0, "a||b": 2, "a b": 2, "a,b": 1, "(a)": 0, "a|(b)": 2, "-a": 0, "1": 0,
    "'a'": 0, "$x": 0, "a = b": 2, "a and b": 2, "a an": 2, "a * b": 2, "a + b": 2, "a!": 1, "a !": 2, ".": 0, "..": 0,
    ".5": 0, "a/.": 2, "a/..": 2, "//.": 2, "/.": 1, "/.5": 1, "a/.5": 2, "//": 2, "// ": 3, "a/": 2, "a//": 3, "a///b": 3,
    "/[1]": 1, "/ /": 2, "self::a": 5, "self ::a": 5, "descendant::a": 11, "ancestor-or-self::a": 17, "parent::*": 7,
    "following-sibling::a": 18, "namespace::a": 10, "namespace ::a": 10, "child:": 6, "child::": 7, "child::.": 7,
    "child:a:b": 7, "attribute::": 11, "attribute::@a": 11, "@": 1, "@@a": 1, "@.": 1, "a/self::b": 7, "a::b": 2,
    "up::a": 3, "a:": 2, "a:b:c": 3, "::a": 0, "child ::self::a": 13, "child::child::a": 13,
    "count(a)": 5, "last()": 4, "true()": 4, "id()": 3, "id(": 3, "id(a)": 3, "id(1)": 3, "id('a": 5, "id('a'": 6,
    "id('a','b')": 6, "id('a')[1]": 7, "id('a') [1]": 8, "id('a')b": 7, "id('a')and": 7, "id($x)": 3, "id('a' )/": 9,
    "id(concat('a', 'b'))": 3, "key()": 4, "key(": 4, "key('n')": 7, "key('n'": 7, "key('n',": 8, "key('n', a)": 9,
    "key('n', 'w', 'x')": 12, "key('n','w')[2]": 12, "key('of', '1')[2]": 14, "key('n','w')|": 13, "key (n": 5,
    "key(('n'),'w')": 4, "a/id('x')": 4, "a/key('n', 'w')": 5, "/id('x')": 3, "//key('n','w')": 5, "child::id('x')": 9,
    "text('a')": 5, "text(": 5, "node()()": 6, "foo(a)": 3, "processing-instruction('a": 25,
    "a[": 2, "a[]": 2, "a[b c]": 4, "a[1": 3, "a[$x]": 2, "a[b = $x]": 6, "a['$' = $x]": 8, "a[current()]": 9,
    "a[current ()]": 10, "a[b/current()]": 11, "a[not(current())]": 13, "a[count()]": 8, "a[.5.]": 4, "a[b and c d]": 11, "a[b and c e]": 10,
    "a[1]b": 4, "a[1]and": 4, "a['\u00e9']": 3, "\u00e9": 0, "a\x00": 1, "/ * 2": 4, "* * *": 2,
}


def fault(text):
    try:
        alternatives_of(text)
    except NotPattern as error:
        return error.at
    return None


def random_pattern(choices):
    """A pattern in a text, alternatives as texts."""
    pick = choices.choice
    blank = lambda: pick(["", "", " ", "\n"])

    def step():
        test = pick(["a", "b:c", "*", "text()", "node( )", "comment()", "processing-instruction('x')", "key", "div"])
        text = pick(["", "", "child :: ", "@", "attribute::"]) + test
        for _ in range(pick([0, 0, 0, 1, 2])):
            text += "[" + Writer(choices).text(Maker(choices, True).tree(3)) + "]"
        return text

    def alternative():
        start = pick(["", "", "", "/", "//", "id('x')/", "key( 'n' , \"w\" )//"])
        if pick([True] + [False] * 9):
            return pick(["/", "id('x')", "key('n','w')"])
        steps = [step() for _ in range(pick([1, 1, 2, 3]))]
        return start + "".join(one + blank() + pick(["/", "//"]) + blank() for one in steps[:-1]) + steps[-1]

    return [blank() + alternative() + blank() for _ in range(pick([1, 1, 2, 3]))]


class Patterns(unittest.TestCase):
    def test_alternatives(self):
        for text, told in ALTERNATIVES.items():
            with self.subTest(text):
                self.assertEqual(alternatives_of(text), [told])
                self.assertEqual(pattern_text(text), told[0])
                self.assertEqual(tree_of(told[0]), tree_of(text))
                self.assertEqual(alternatives_of(told[0]), [told])

    def test_several(self):
        text = " | ".join(ALTERNATIVES)
        self.assertEqual(alternatives_of(text), list(ALTERNATIVES.values()))
        self.assertEqual(pattern_text(text), " | ".join(told for told, _ in ALTERNATIVES.values()))
        self.assertEqual(pattern_text("a|b|a"), "child::a | child::b | child::a")

    def test_new_lists(self):
        alternatives_of("a").append(1)
        self.assertEqual(alternatives_of("a"), [("child::a", "0")])

    def test_many(self):
        choices = random.Random(15)
        for _ in range(1500):
            rows = random_pattern(choices)
            found = alternatives_of("|".join(rows))
            self.assertEqual(len(found), len(rows))
            for row, (text, priority) in zip(rows, found):
                tree = second_tree(row)
                self.assertEqual(second_tree(text), tree, row)
                self.assertEqual(canonical(text), canonical(row))
                self.assertEqual(alternatives_of(text), [(text, priority)])
                self.assertEqual(priority, told_priority(tree), row)
                self.assertEqual("//" in own_text(text), "descendant-or-self::node()/" in own_text(canonical(row)))
                self.assertNotIn("descendant-or-self", own_text(text))


def own_text(text):
    """A text without what stands in predicates."""
    kept, level, quote = [], 0, ""
    for sign in text:
        if quote:
            quote = "" if sign == quote else quote
        elif sign in "'\"":
            quote = sign
        else:
            level += (sign == "[") - (sign == "]")
            kept += [sign] if not level else []
    return "".join(kept)


def told_priority(tree):
    if tree[0] != "path" or tree[1] is not None or len(tree[2]) != 1 or tree[2][0][2]:
        return "0.5"
    test = tree[2][0][1]
    return "0" if test[0] == "name" or test[0] == "kind" and test[2] is not None else "-0.5"


class Faults(unittest.TestCase):
    def test_told(self):
        for text, at in FAULTS.items():
            with self.subTest(text):
                self.assertEqual(fault(text), at)
                with self.assertRaises(NotPattern) as caught:
                    pattern_text(text)
                self.assertEqual(caught.exception.at, at)

    def test_no_text(self):
        for thing in STRANGE:
            self.assertRaises(BadValue, pattern_text, thing)
            self.assertRaises(BadValue, alternatives_of, thing)

    def test_each_beginning(self):
        choices = random.Random(16)
        for _ in range(300):
            text = "|".join(random_pattern(choices))[:150]
            for end in range(len(text) + 1):
                self.assertIn(fault(text[:end]), (None, end), text[:end])

    def test_the_fault_hangs_on_the_beginning_alone(self):
        choices = random.Random(17)
        signs = "aid x1.:/[]()*@$'\"=!|-,\n#"
        for _ in range(5000):
            text = "|".join(random_pattern(choices))[:60]
            at = choices.randrange(len(text) + 1)
            text = text[:at] + choices.choice(signs) + text[at + choices.randrange(2):]
            at = fault(text)
            if at is None:
                tree_of(text)
                continue
            self.assertIn(fault(text[:at]), (None, at), text)
            for end in range(at + 1, len(text) + 1):
                self.assertEqual(fault(text[:end]), at, text)
            try:
                tree_of(text[:at])
            except NotPath as error:
                # A beginning of a pattern is one of a path, too.
                self.assertEqual(error.at, at)

    def test_names_of_arguments(self):
        self.assertEqual(pattern_text(text="a"), "child::a")
        self.assertEqual(alternatives_of(text="a"), [("child::a", "0")])


if __name__ == "__main__":
    unittest.main()
