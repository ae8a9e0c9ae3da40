"""[4.1] to [4.6]: axes, tests, predicates and positions, compared with what the words of the document tell."""

import random
import unittest

from pathloom.contexts import World, start_context
from pathloom.documents import read
from pathloom.evaluating import value_of
from pathloom.paths import tree_of
from pathloom.places import node_at
from pathloom.trees import in_order, place_of
from tests.plain_axes import Told
from tests.second_paths import AXES

DOCUMENT = ("<!--1--><?p 2?><r a='1' b='2'>x<s a='3'><t/>y<!--c--><?p q?><?q?><t b='4'><s/></t></s><s/>z"
            "<t><u c='5' a='6'><s>w</s></u></t><p:u/></r><?q?>")
TESTS = ["a", "s", "t", "r", "*", "node()", "text()", "comment()", "processing-instruction()",
         "processing-instruction('p')", "processing-instruction('t')", "p:u"]
# Predicates and what they mean, of a place, a position and a size.
PREDICATES = {
    "1": lambda told, node, at, size: at == 1,
    "2": lambda told, node, at, size: at == 2,
    "last()": lambda told, node, at, size: at == size,
    "1.5": lambda told, node, at, size: False,
    "0 div 0": lambda told, node, at, size: False,
    "position() mod 2 = 1": lambda told, node, at, size: at % 2 == 1,
    "last() - 1": lambda told, node, at, size: at == size - 1,
    "@a": lambda told, node, at, size: node + ("@a",) in told.index,
    "not(@a)": lambda told, node, at, size: node + ("@a",) not in told.index,
    "..": lambda told, node, at, size: node != (),
    "string(position())": lambda told, node, at, size: True,
    "self::s": lambda told, node, at, size: told.kind[node] == "element" and told.name[node] == "s",
    "true()": lambda told, node, at, size: True,
    "'0'": lambda told, node, at, size: True,
    "''": lambda told, node, at, size: False,
}


def value(text, node):
    return [place_of(one) for one in value_of(tree_of(text), start_context(node, World()))[1]]


class Steps(unittest.TestCase):
    def setUp(self):
        self.tree = read(DOCUMENT)
        self.told = Told(self.tree)

    def check(self, text, place):
        steps = tree_of(text)[2]
        nodes = [place] if tree_of(text)[1] is None else [()]
        told = self.told.steps(nodes, steps, self.passed)
        self.assertEqual(value(text, node_at(self.tree, place)), told, (text, place))

    def passed(self, predicate, node, at, size):
        tell = next(PREDICATES[text] for text in PREDICATES if tree_of(text) == predicate)
        return tell(self.told, node, at, size)

    def test_each_axis_and_test_from_each_node(self):
        for place in self.told.places:
            for axis in AXES:
                for test in TESTS:
                    self.check(f"{axis}::{test}", place)

    def test_each_axis_with_each_predicate(self):
        for place in self.told.places:
            for axis in AXES:
                for predicate in PREDICATES:
                    self.check(f"{axis}::node()[{predicate}]", place)

    def test_many(self):
        choices = random.Random(14)
        for _ in range(2500):
            steps = []
            for _ in range(choices.choice([1, 2, 2, 3, 4])):
                step = choices.choice(AXES) + "::" + choices.choice(TESTS + ["node()"] * 5)
                for _ in range(choices.choice([0, 0, 1, 2])):
                    step += "[" + choices.choice(list(PREDICATES)) + "]"
                steps.append(step)
            slash = choices.choice(["", "", "/", "//"])
            self.check(slash + "".join(step + choices.choice(["/", "/", "//"]) for step in steps[:-1]) + steps[-1],
                       choices.choice(self.told.places))

    def test_directions(self):
        told = {"//t[1]": [(0, 1, 0), (0, 4)], "(//t)[1]": [(0, 1, 0)], "(//t)[last()]": [(0, 4)],
                "//u/ancestor::*[1]": [(0, 4)], "(//u/ancestor::*)[1]": [(0,)], "/r/t/preceding::*[1]": [(0, 2)],
                "/r/t/preceding-sibling::*[1]": [(0, 2)], "(/r/t/preceding-sibling::*)[1]": [(0, 1)],
                "/r/@*[2]": [(0, "@b")], "(//@*)[last()]": [(0, 4, 0, "@a")], "//s[1][@a]": [(0, 1)],
                "//s[@a][1]": [(0, 1)], "//*[@a][2]": [], "/r/s[2][1]": [(0, 2)],
                "/r/s[1][2]": [], "/r/node()[self::s][2]": [(0, 2)], "/r/*[position() > 1][1]": [(0, 2)],
                "/r/ancestor-or-self::node()[1]": [(0,)], "/r/..": [()], "/..": [], "/r/@a/..": [(0,)],
                "/r/@a/following::s": [(0, 1), (0, 1, 5, 0), (0, 2), (0, 4, 0, 0)], "/r/@a/following-sibling::node()": [],
                "/r/@b/preceding::node()": [],
                "//@a | //u | /": [(), (0, "@a"), (0, 1, "@a"), (0, 4, 0), (0, 4, 0, "@a")]}
        tree = read(DOCUMENT.replace("<!--1--><?p 2?>", ""))
        for text, found in told.items():
            self.assertEqual(value(text, tree.root), found, text)

    def test_predicates_of_lists_count_in_document_order(self):
        tree = read("<r><a/><b/><a/></r>")
        last = node_at(tree, (0, 2))
        self.assertEqual(value("preceding-sibling::*[1]", last), [(0, 1)])
        self.assertEqual(value("(preceding-sibling::*)[1]", last), [(0, 0)])
        self.assertEqual(value("(. | preceding-sibling::*)[last()]/self::a", last), [(0, 2)])
        self.assertEqual(value("(..)[1]/*[2]", last), [(0, 1)])

    def test_union_and_order(self):
        node = self.tree.root
        self.assertEqual(value("//t | //s | //t", node), sorted(set(value("//t", node) + value("//s", node))))
        self.assertEqual(value("//u/ancestor::* | //s", node)[0], (2,))

    def test_nodes_of_several_trees(self):
        trees = [read("<r><a/><a/></r>") for _ in range(3)]
        for number, tree in zip((2, 0, 1), trees):
            tree.number = number
        nodes = [node for tree in trees for node in tree.nodes]
        told = trees[1].nodes + trees[2].nodes + trees[0].nodes
        self.assertEqual(in_order(nodes + nodes[::-1]), told)
        self.assertEqual(in_order([nodes[5], nodes[1], nodes[5]]), [nodes[5], nodes[1]])
        mark = value_of(tree_of("generate-id()"), start_context(trees[0].nodes[3], World()))
        self.assertEqual(mark, ("text", "n2d3"))

    def test_large_documents(self):
        tree = read("<r>" + "<a b='1'>x</a>" * 1600 + "</r>")
        for text, many in (("//a/following::node()", 3198), ("//text()/preceding::*", 1599), ("//a[last()]", 1),
                           ("//a/following-sibling::*", 1599), ("//a/preceding-sibling::*", 1599),
                           ("//@b/ancestor-or-self::node()", 3202), ("//node()//node()", 3201 - 1), ("//@b/..", 1600),
                           ("//a[position() > 800]", 800), ("//*[@b = 1]", 1600), ("//*[//a = .]", 1600)):
            self.assertEqual(len(value(text, tree.root)), many, text)

    def test_deep_documents(self):
        for levels in (80, 200):
            tree = read("<a>" * levels + "x" + "</a>" * levels)
            self.assertEqual(len(value("//a//a//a", tree.root)), levels - 2)
            self.assertEqual(len(value("//text()/ancestor::a[count(ancestor::*) > 9]", tree.root)), levels - 10)

    def test_brackets_and_rows(self):
        node = self.tree.root
        for text, many in (("(" * 25 + "//s" + ")" * 25, 4), ("//s" + "[self::s" * 25 + "]" * 25, 4),
                           ("//s[" + "-" * 90 + "1 = 1]", 4), ("//s[" + "1+" * 90 + "1 = 91]", 4),
                           (" | ".join(["//s"] * 90), 4), ("//s[" + "0 or " * 90 + "1]", 4),
                           ("//s[" + "".join("0 or 1 and 1 = 1 <= 1 + 0 * -(" for _ in range(19)) + "-1" + ")" * 19 + "]", 4),
                           ("//s[boolean(" * 10 + "1" + ")]" * 10, 4)):
            self.assertEqual(len(value(text, node)), many, text)


if __name__ == "__main__":
    unittest.main()
