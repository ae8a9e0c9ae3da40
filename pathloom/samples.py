"""Samples: what a document must have so that a way selects a node of it, without any choice left.

Wherever a way lets choose (`or`, and whether descendant-or-self stays), there
is a sample for each choice. A node is selected on a document exactly if one of
the samples can be laid upon it.
"""


class SampleNode:
    """An element that must be there, or the root: its name, None for any, and what it must have.

    `names` are those of attributes, None for any attribute; `below` are tuples
    (node, whether it is a child itself or may stand deeper).
    """

    def __init__(self, name, is_root):
        self.name = name
        self.is_root = is_root
        self.names = []
        self.below = []


class Sample:
    """The nodes of a sample, each ahead of those below it, and which one of them is selected.

    `attribute` is the name of the attribute of this node that is selected,
    None for any, or "" if it is the node itself. A sample that is not
    `possible` can be laid upon no document.
    """

    def __init__(self, steps):
        self.root = SampleNode(None, True)
        self.nodes = [self.root]
        self.attribute = ""
        self.possible = True
        self.selected = self.put_steps(self.root, steps, True)

    def put_steps(self, node, steps, is_way):
        """Put what steps from a node ask for; return the node that they end at."""
        for axis, name, tests in steps:
            if axis == "attribute":
                self.possible = self.possible and not node.is_root
                node.names.append(name)
                if is_way:
                    self.attribute = name
            elif axis == "self":
                self.put_name(node, name)
            else:
                inner = SampleNode(name, False)
                node.below.append((inner, axis == "child"))
                self.nodes.append(inner)
                node = inner
            for test in tests:
                self.put_steps(node, test, False)
        return node

    def put_name(self, node, name):
        """Ask for a name of a node, which may have one already."""
        if node.is_root or name is not None and node.name not in (None, name):
            self.possible = False
        elif name is not None:
            node.name = name


def samples_of(ways):
    """The possible samples of ways."""
    samples = [Sample(steps) for way in ways for steps in choices_of_steps(way)]
    return [sample for sample in samples if sample.possible]


def choices_of_steps(steps):
    """Steps without `or` and descendant-or-self, one row of them for each choice; tests are lists of such steps."""
    rows = [[]]
    for axis, name, tests in steps:
        axes = ["self", "descendant"] if axis == "descendant-or-self" else [axis]
        told = [[]]
        for test in tests:
            told = [one + other for one in told for other in choices_of_test(test)]
        rows = [[*row, (one_axis, name, one)] for row in rows for one_axis in axes for one in told]
    return rows


def choices_of_test(test):
    """Lists of steps that must all be there so that a test is passed, one for each choice."""
    if test[0] == "path":
        return [[steps] for steps in choices_of_steps(test[1])]
    first = choices_of_test(test[1])
    second = choices_of_test(test[2])
    if test[0] == "or":
        return first + second
    return [one + other for one in first for other in second]
