"""The rules of a stylesheet, and which one is chosen for a node."""

from pathloom.axes import told_by
from pathloom.contexts import start_context
from pathloom.evaluating import compiled, predicates_of
from pathloom.path_words import ANYTHING_BELOW
from pathloom.steps import step_functions


class PatternStep:
    """A step of a pattern: the kind and the name of the nodes that pass its test, None for any, and its function.

    A step that is `is_anything` stands for `//`.
    """

    def __init__(self, step):
        axis, test, predicates = step
        self.is_anything = step == ANYTHING_BELOW
        self.is_on_attributes = axis == "attribute"
        self.kind, self.name = told_by(axis, test)
        self.leads = None
        if predicates != ():
            self.leads = step_functions(axis, test, predicates_of(predicates))[0]

    def passes_test(self, node):
        """Whether a node is on the axis from its parent, and passes the test."""
        if node.parent is None or (node.kind == "attribute") != self.is_on_attributes:
            return False
        return self.kind in (None, node.kind) and self.name in (None, node.name)

    def passes(self, node, world):
        """Whether the step leads to a node from its parent."""
        return self.passes_test(node) and (self.leads is None or node in self.passed_from(node.parent, world))

    def passed_from(self, parent, world):
        """The nodes that the step leads to from a node, as the keys of a dict."""
        if (self, parent) not in world.passed:
            lead = self.leads
            nodes = lead(parent, start_context(parent, world))
            world.passed[(self, parent)] = {node: True for node in nodes}
        return world.passed[(self, parent)]


class Alternative:
    """An alternative of a pattern, of which nodes of a stylesheet's documents are asked one by one.

    `start` is None if it begins at any node, "root", or the function of the
    call that gives the nodes at which it begins.
    """

    def __init__(self, tree):
        begin = tree[1] if tree[0] == "path" else tree
        self.start = begin if begin in (None, "root") else compiled(begin)
        self.steps = [PatternStep(step) for step in tree[2]] if tree[0] == "path" else []

    def may_fit(self, node):
        """Whether a node passes the test of the last step, or is a root if there is none but `/`."""
        if self.steps == []:
            return self.start != "root" or node.kind == "root"
        return self.steps[-1].passes_test(node)

    def fits(self, node, world):
        """Whether a node that may fit does."""
        if self.steps == []:
            return self.start == "root" or self.is_begin(node, world)
        if self.start is None and len(self.steps) == 1:
            return self.steps[0].leads is None or self.steps[0].passes(node, world)
        chain = [node]
        while node.parent is not None:
            node = node.parent
            chain.append(node)
        chain = chain[::-1]
        reached = [self.is_begin(part, world) for part in chain]
        for step in self.steps:
            reached = reached_by(step, chain, reached, world)
        return reached[-1]

    def is_begin(self, node, world):
        """Whether the steps may begin at a node."""
        if self.start is None:
            return True
        if self.start == "root":
            return node.parent is None
        if (self, node.tree) not in world.passed:
            start = self.start
            nodes = start(node.tree.root, 1, 1, start_context(node.tree.root, world))[1]
            world.passed[(self, node.tree)] = {part: True for part in nodes}
        return node in world.passed[(self, node.tree)]


def reached_by(step, chain, reached, world):
    """Which nodes of a chain, from a root down, a step leads to from those that were reached."""
    if step.is_anything:
        return [True in reached[:at + 1] for at in range(len(chain))]
    return [False] + [is_on and step.passes(node, world) for is_on, node in zip(reached, chain[1:])]


class Rule:
    """A rule: an alternative and the template that it leads to, with what it is ranked by."""

    def __init__(self, alternative, template, rank):
        self.alternative = alternative
        self.template = template
        self.rank = rank


class Rules:
    """All rules: `ranked` has those of each mode, the ones that are to be asked first ahead.

    `known` are those rules of a mode that may fit nodes of a kind and a name.
    """

    def __init__(self, by_modes):
        self.ranked = {}
        for mode in by_modes:
            self.ranked[mode] = sorted(by_modes[mode], key=lambda rule: rule.rank, reverse=True)
        self.known = {}

    def template_for(self, node, mode, importing, world):
        """The template chosen for a node, None if there is none; of what a template imports if one is given."""
        key = (mode, node.kind, node.name)
        if key not in self.known:
            self.known[key] = [rule for rule in self.ranked.get(mode, []) if rule.alternative.may_fit(node)]
        for rule in self.known[key]:
            if importing is None or importing.low <= rule.template.precedence < importing.precedence:
                if rule.alternative.fits(node, world):
                    return rule.template
        return None
