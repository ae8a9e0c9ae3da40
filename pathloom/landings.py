"""Where the steps of ways can lead to, told of each node from what is told of its children.

Each step of the ways, and of the paths in their tests, has a number, and a
set of steps is the number that has the bits of these steps: the steps of one
path are numbered one behind the other. A step LANDS at a node if the node
passes its test and all that is behind the step in its path succeeds from
there; a way ends at the node that is selected. The STATE of a node has the
child steps that land at it, and, moved by the number of all steps, the deeper
steps that land at it or at a node in it: all that matters above the node.
"""

DEEP_AXES = ("descendant", "descendant-or-self")
LOCAL_AXES = ("self", "descendant-or-self")


class Landings:
    """The steps of some ways, as sets of bits.

    `has_next` are those with a step behind them, `ends` those that end a path
    in a test, `way_ends` those that end a way; `firsts` begin a way. `asked`
    are tuples (step, formula) for those with tests; in a formula a path is
    the bit of its first step.
    """

    def __init__(self, ways):
        self.many = 0
        self.child = 0
        self.deep = 0
        self.local = 0
        self.any_name = 0
        self.by_names = {}
        self.attributes = []
        self.has_next = 0
        self.ends = 0
        self.way_ends = 0
        self.firsts = 0
        self.asked = []
        self.known = {}
        self.selects_root = [] in ways
        for steps in ways:
            if steps != []:
                self.firsts |= self.put_path(steps, True)

    def put_path(self, steps, is_way):
        """Number the steps of a path; return the bit of the first one."""
        bits = [1 << (self.many + at) for at in range(len(steps))]
        self.many += len(steps)
        for bit, step in zip(bits, steps):
            self.put_step(bit, step, is_way)
        self.has_next |= sum(bits[:-1])
        if steps[-1][0] != "attribute":
            if is_way:
                self.way_ends |= bits[-1]
            else:
                self.ends |= bits[-1]
        return bits[0]

    def put_step(self, bit, step, is_way):
        """Put a step among those of its axis and its name, and its tests."""
        axis, name, tests = step
        if axis == "attribute":
            self.attributes.append((bit, name, is_way))
            return
        if axis == "child":
            self.child |= bit
        if axis in DEEP_AXES:
            self.deep |= bit
        if axis in LOCAL_AXES:
            self.local |= bit
        if name is None:
            self.any_name |= bit
        else:
            self.by_names[name] = self.by_names.get(name, 0) | bit
        for test in tests:
            formula = self.formula_of(test)
            if formula != 0:
                self.asked.append((bit, formula))

    def formula_of(self, test):
        """The formula of a test: 0 if it is always passed, a bit, or a tuple (word, formula, formula)."""
        if test[0] == "path":
            return self.put_path(test[1], False) if test[1] != [] else 0
        first = self.formula_of(test[1])
        second = self.formula_of(test[2])
        if test[0] == "or":
            return 0 if first == 0 or second == 0 else ("or", first, second)
        if first == 0 or second == 0:
            return first if second == 0 else second
        return ("and", first, second)

    def passed_by(self, name):
        """The steps whose tests an element of a name passes."""
        return self.any_name | self.by_names.get(name, 0)

    def attribute_bits(self, names, selected):
        """The attribute steps that succeed from an element with attributes, of which one may be the selected one."""
        found = 0
        for bit, name, is_way in self.attributes:
            if is_way:
                fits = selected != "" and name in (None, selected)
            else:
                fits = names != [] and (name is None or name in names)
            if fits:
                found |= bit
        return found

    def state_of(self, tests, given, is_selected, below):
        """The state of an element, given what it passes, what succeeds by its attributes, and its children's states."""
        key = (tests, given, is_selected, below)
        if key not in self.known:
            self.known[key] = self.new_state(tests, given, is_selected, below)
        return self.known[key]

    def new_state(self, tests, given, is_selected, below):
        """The state of an element of which none is known."""
        ends = self.ends | self.way_ends if is_selected else self.ends
        deeper = below >> self.many
        ways = below & self.child | deeper & self.deep | given
        lands = 0
        # What lands here may let other steps go on from here.
        while True:
            reached = ways | lands & self.local
            found = tests & (reached >> 1 & self.has_next | ends)
            for bit, formula in self.asked:
                if found & bit and not holds(formula, reached):
                    found -= bit
            if found == lands:
                return lands & self.child | ((lands | deeper) & self.deep) << self.many
            lands = found

    def is_selected_below(self, below):
        """Whether a way leads from the root to the selected node, given the outermost element's state."""
        return (below & self.child | below >> self.many & self.deep) & self.firsts != 0


def holds(formula, reached):
    """Whether a formula holds if some paths succeed."""
    if isinstance(formula, int):
        return formula & reached != 0
    if formula[0] == "or":
        return holds(formula[1], reached) or holds(formula[2], reached)
    return holds(formula[1], reached) and holds(formula[2], reached)
