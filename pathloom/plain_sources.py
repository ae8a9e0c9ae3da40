"""Documents of which a plain stylesheet makes a told result."""

from pathloom.errors import TooLarge
from pathloom.plain_bodies import subsets_of
from pathloom.plain_programs import Program, fresh_name, is_applied_to

MOST_SETS = 20000
# As far as more sets than that are looked at before the search is given up.
MOST_LOOKED_AT = 60000


class SourceSearch:
    """A search for the source of a result.

    A TASK is a tuple (names, parts): which tested names are among the children
    of an element, and what has to come of these children, all at once: tuples
    (number of what is applied to them, order of a node of the result, index of
    its child from which on all its children have to come of them). `solved`
    has for each task the children, tuples (label, task), or None.
    """

    def __init__(self, top, tree):
        self.program = Program(top)
        self.tree = tree
        self.labels = [fresh_name(self.program.names)] + sorted(set(self.program.names))
        self.subsets = subsets_of(self.program.tested)
        self.applied = []
        self.numbers = {}
        self.solved = {}
        self.sets = {}

    def source_text(self):
        """The text of a source, None if there is none."""
        for label in self.labels:
            for names in self.subsets:
                left = self.program.left_of_document(label, names)
                parts = []
                if self.collect_parts(left, self.tree.root, parts):
                    task = task_of(names, parts)
                    if self.solve(task) is not None:
                        return self.text_of_solution(label, task)
        return None

    def collect_parts(self, left, node, parts):
        """Whether what is left can make the content of a node; what has to come of the children is put into a list."""
        if not self.collect_in_items(left.items_left, node, 0, parts):
            return False
        start = len(left.items_left)
        if left.applied is None:
            return start == len(node.children)
        # What is applied makes elements alone.
        if [child for child in node.children[start:] if child.kind != "element"] != []:
            return False
        parts.append((self.number_of(left.applied), node.order, start))
        return True

    def collect_in_items(self, found, node, start, parts):
        """Whether items can make the children of a node from an index on."""
        if start + len(found) > len(node.children):
            return False
        for item, child in zip(found, node.children[start:start + len(found)]):
            if item[0] == "text":
                if child.kind != "text" or child.text != item[1]:
                    return False
            elif child.kind != "element" or child.name != item[1] or attributes_of(child) != item[2]:
                return False
            elif not self.collect_parts(item[3], child, parts):
                return False
        return True

    def number_of(self, applied):
        """The number of what is applied to children."""
        if applied not in self.numbers:
            self.numbers[applied] = len(self.applied)
            self.applied.append(applied)
        return self.numbers[applied]

    def solve(self, task):
        """The children that solve a task, None if none do."""
        # Tasks wait for others: a list of them, not recursion, as results may be hundreds of levels deep.
        rows = [RowSearch(self, task)]
        while rows != []:
            row = rows[-1]
            needed = row.needed_task()
            if needed is None:
                self.solved[row.task] = row.answer
                rows.pop()
            else:
                rows.append(RowSearch(self, needed))
        return self.solved[task]

    def note_set(self, parts):
        """Count a set of parts that have to come of the same children."""
        self.sets[parts] = True
        if len(self.sets) > MOST_LOOKED_AT:
            raise TooLarge(MOST_SETS)

    def text_of_solution(self, label, task):
        """The text of an element whose children solve a task."""
        pieces = []
        waiting = [(label, task)]
        while waiting:
            name, inner = waiting.pop()
            if inner is None:
                pieces.append(name)
            elif self.solved[inner] == []:
                pieces.append(f"<{name}/>")
            else:
                pieces.append(f"<{name}>")
                waiting.append((f"</{name}>", None))
                waiting.extend(self.solved[inner][::-1])
        return "".join(pieces)


class RowSearch:
    """A search for the row of children that solves a task.

    A state is a tuple (indexes, names): as far as which child each part of the
    task has come of those in the row so far, and which tested names are among
    these. `reached` has for each state the one ahead of it and the child that
    led from there, `waiting` are moves (state, child, state).
    """

    def __init__(self, search, task):
        self.search = search
        self.task = task
        self.nodes = [search.tree.nodes[order] for _, order, _ in task[1]]
        self.goal = (tuple([len(node.children) for node in self.nodes]), task[0])
        self.answer = None
        self.reached = {}
        self.waiting = []
        self.reach((tuple([start for _, _, start in task[1]]), ()), None)

    def needed_task(self):
        """Go on with the search; the task that must be solved first, None if the search has ended."""
        while self.waiting != [] and self.answer is None:
            ahead, child, state = self.waiting[-1]
            if state not in self.reached:
                if child[1] not in self.search.solved:
                    return child[1]
                self.waiting.pop()
                if self.search.solved[child[1]] is not None:
                    self.reach(state, (ahead, child))
            else:
                self.waiting.pop()
        return None

    def reach(self, state, way):
        """Come to a state; either it is the goal, or all moves from it wait."""
        self.reached[state] = way
        self.search.note_set(tuple([(*part[:2], index) for part, index in zip(self.task[1], state[0])]))
        if state == self.goal:
            self.answer = self.children_to(state)
        else:
            moves = self.moves_from(state)
            self.waiting.extend(moves[::-1])

    def children_to(self, state):
        """The children that lead to a state."""
        found = []
        while self.reached[state] is not None:
            state, child = self.reached[state]
            found.append(child)
        return found[::-1]

    def moves_from(self, state):
        """All moves from a state by one more child."""
        search = self.search
        moves = []
        for label in search.labels:
            if label in search.program.tested and label not in self.task[0]:
                continue
            for names in search.subsets:
                parts = []
                indexes = self.indexes_behind(state[0], label, names, parts)
                if indexes is not None:
                    seen = [name for name in self.task[0] if name in state[1] or name == label]
                    moves.append((state, (label, task_of(names, parts)), (indexes, tuple(seen))))
        return [move for move in moves if move[2] not in self.reached]

    def indexes_behind(self, indexes, label, names, parts):
        """As far as which child each part has come behind one more child of the source, None if it cannot be there."""
        search = self.search
        found = []
        for at, node in enumerate(self.nodes):
            applied = search.applied[self.task[1][at][0]]
            index = indexes[at]
            if is_applied_to(applied, label):
                made = search.program.left_for(applied[0], label, names).items_left
                if not search.collect_in_items(made, node, index, parts):
                    return None
                index += len(made)
            found.append(index)
        return tuple(found)


def task_of(names, parts):
    """A task: the names in order, and the parts in order, each once."""
    return (names, tuple(sorted(set(parts))))


def attributes_of(node):
    """The attributes of an element: tuples (name, text), in order."""
    return tuple([(attribute.name, attribute.text) for attribute in node.attributes])
