"""Whether two plain stylesheets always make the same, and a document of which they do not.

Why a difference shows: behind equally many items, what is applied to the
children must make the same of each single child. For if two contents are
alike for some children, and for the same with one more behind them, both make
the same of this one.
"""

from pathloom.errors import TooLarge
from pathloom.plain_bodies import subsets_of
from pathloom.plain_programs import Left, Program, fresh_name, is_applied_to

MOST_TESTED = 4
MOST_PAIRS = 5000
# A state is what one stylesheet does with an element: () is nothing, (mode,) that it is processed.
NOTHING = ()


class Grown:
    """An element of a source that is being made; `makes` are the numbers of what both make of it, by modes."""

    def __init__(self, label, inside):
        self.label = label
        self.inside = inside
        self.text = f"<{label}/>"
        if inside != []:
            self.text = f"<{label}>" + "".join([child.text for child in inside]) + f"</{label}>"
        self.makes = ({}, {})


class Comparison:
    """A comparison of two plain stylesheets.

    `reached` has for each (state, state, label) that had to be compared the one
    above it, and the tested names that are among the children there. Of those
    that the same templates process one stands for all: `seen_rules`.
    """

    def __init__(self, one, other):
        self.programs = (Program(one), Program(other))
        self.tested = sorted(set(self.programs[0].tested + self.programs[1].tested))
        if len(self.tested) > MOST_TESTED:
            raise TooLarge(MOST_TESTED)
        names = sorted(set(self.programs[0].names + self.programs[1].names))
        self.labels = [fresh_name(names)] + names
        self.subsets = subsets_of(self.tested)
        self.reached = {}
        self.waiting = []
        self.seen_pairs = {}
        self.seen_rules = {}
        self.numbers = {}

    def parting_text(self):
        """The text of a document with different results, None if there is none."""
        for label in self.labels:
            self.waiting.append(("document", "document", label))
        # From the front to the back, so that what is found is as short as can be.
        at = 0
        while at < len(self.waiting):
            key = self.waiting[at]
            at += 1
            for names in self.subsets:
                if not self.is_alike(key, names):
                    return self.grown_document(key, names).text
        return None

    def left_for_state(self, index, state, label, names):
        """What one of the stylesheets leaves for an element in a state."""
        if state == "document":
            return self.programs[index].left_of_document(label, names)
        if state == NOTHING:
            return Left([], None)
        return self.programs[index].left_for(state[0], label, names)

    def is_alike(self, key, names):
        """Whether both leave the same for an element, but for its children, which wait then."""
        one, other, label = key
        pairs = []
        left = self.left_for_state(0, one, label, names)
        if not collect_pairs(left, self.left_for_state(1, other, label, names), pairs):
            return False
        for pair in pairs:
            self.seen_pairs[pair] = True
            if len(self.seen_pairs) > MOST_PAIRS:
                raise TooLarge(MOST_PAIRS)
            for inner in self.allowed_labels(names):
                self.put_waiting((state_of(pair[0], inner), state_of(pair[1], inner), inner), key, names)
        return True

    def put_waiting(self, key, above, names):
        """Have something compared, unless it was, or nothing is done on both sides."""
        rules = (self.rule_in_state(0, key[0], key[2]), self.rule_in_state(1, key[1], key[2]))
        if rules not in self.seen_rules and key[:2] != (NOTHING, NOTHING):
            self.seen_rules[rules] = True
            self.reached[key] = (above, names)
            self.waiting.append(key)

    def rule_in_state(self, index, state, label):
        """The rule by which one of the stylesheets processes an element in a state."""
        return NOTHING if state == NOTHING else self.programs[index].rule_for(state[0], label)

    def allowed_labels(self, names):
        """The labels of children, if of the tested names these are among them."""
        return [label for label in self.labels if label in names or label not in self.tested]

    def grown_document(self, key, names):
        """The outermost element of a document with different results, up from where both leave other things."""
        grown = self.grown_bottom(key, names)
        while key in self.reached:
            key, names = self.reached[key]
            inside = [self.grow(name, []) for name in names]
            alone = self.grow(key[2], inside)
            grown = alone if self.is_parted(key, alone) else self.grow(key[2], [*inside, grown])
        return grown

    def grown_bottom(self, key, names):
        """An element of which different things are made, if both leave other things for it."""
        inside = [self.grow(name, []) for name in names]
        grown = self.grow(key[2], inside)
        if self.is_parted(key, grown):
            return grown
        for label in self.allowed_labels(names):
            for subset in self.subsets:
                child = self.grow(label, [self.grow(name, []) for name in subset])
                grown = self.grow(key[2], [*inside, child])
                if self.is_parted(key, grown):
                    return grown
        return grown

    def grow(self, label, inside):
        """An element with a label and children, and what both stylesheets make of it in all their modes."""
        grown = Grown(label, inside)
        names = self.tested_names_in(grown)
        for index, program in enumerate(self.programs):
            for mode in program.modes():
                left = program.left_for(mode, label, names)
                grown.makes[index][mode] = self.numbers_of(left, inside, index)
        return grown

    def tested_names_in(self, grown):
        """The tested names that are among the children of an element."""
        labels = [child.label for child in grown.inside]
        return tuple([name for name in self.tested if name in labels])

    def numbers_of(self, left, inside, index):
        """The numbers of the nodes that something left makes for some children: the same ones for alike nodes."""
        found = []
        for item in left.items_left:
            key = item
            if item[0] == "made":
                key = (*item[:3], self.numbers_of(item[3], inside, index))
            found.append(self.numbers.setdefault(key, len(self.numbers)))
        for child in inside:
            if is_applied_to(left.applied, child.label):
                found.extend(child.makes[index][left.applied[0]])
        return tuple(found)

    def is_parted(self, key, grown):
        """Whether both make different things of an element in their states."""
        return self.made_in_state(0, key[0], grown) != self.made_in_state(1, key[1], grown)

    def made_in_state(self, index, state, grown):
        """The numbers of what one of the stylesheets makes of an element in a state."""
        if state == NOTHING:
            return ()
        if state == "document":
            left = self.programs[index].left_of_document(grown.label, self.tested_names_in(grown))
            return self.numbers_of(left, grown.inside, index)
        return grown.makes[index][state[0]]


def state_of(applied, label):
    """The state of a child with a label if something is applied to the children."""
    return (applied[0],) if is_applied_to(applied, label) else NOTHING


def collect_pairs(one, other, pairs):
    """Whether two lefts have the same items; what both apply to the children is put into a list, in pairs."""
    if len(one.items_left) != len(other.items_left):
        return False
    for item, twin in zip(one.items_left, other.items_left):
        if item[:3] != twin[:3]:
            return False
        if item[0] == "made" and not collect_pairs(item[3], twin[3], pairs):
            return False
    if one.applied is not None or other.applied is not None:
        pairs.append((one.applied, other.applied))
    return True
