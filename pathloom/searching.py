"""The search for documents on which a way selects a node that no other ways select.

It is enough to look at documents that have just what a sample of the way asks
for, with elements of a fresh name in the place of any name and on the way down
to what may stand deeper: what the other ways select on such a document they
select wherever the sample is laid upon a document. And of several things that
can be put below a node, only those count that let the fewest steps land.
"""

from pathloom.plain_programs import fresh_name

# How long the rows of fresh elements may be; the short ones are tried first, for the sake of small documents.
LENGTHS = (1, 3, 10, 30, None)


class Grown:
    """An element of a document: what it has in it, and the selected attribute, "" for itself, None for neither."""

    def __init__(self, name, names, inside, selected):
        self.name = name
        self.names = names
        self.inside = inside
        self.selected = selected


class Search:
    """A search, if `landings` are those of the other ways; `most` is the greatest length of rows, None for any."""

    def __init__(self, landings, names, most):
        self.landings = landings
        self.fresh = fresh_name(names)
        self.most = most

    def found_in(self, sample):
        """The outermost element of a document on which the others do not select the sample's node, or None."""
        states = {}
        for node in sample.nodes[:0:-1]:
            states[node] = self.states_of(node, sample, states)
        if sample.root.below == []:
            return None if self.landings.selects_root else Grown(self.fresh, [], [], None)
        inner, is_child = sample.root.below[0]
        found = states[inner] if is_child else self.lowered(states[inner])
        for state in found:
            if not self.landings.is_selected_below(state):
                return found[state]
        return None

    def states_of(self, node, sample, states):
        """The states that an element of a sample may have, with an element for each."""
        selected = self.selected_at(node, sample)
        names = self.attribute_names(node, selected)
        label = self.fresh if node.name is None else node.name
        landings = self.landings
        tests = landings.passed_by(label)
        given = landings.attribute_bits(names, "" if selected is None else selected)
        found = {}
        rows = self.rows_below(node, states)
        for below in rows:
            state = landings.state_of(tests, given, selected == "", below)
            if state not in found:
                found[state] = Grown(label, names, rows[below], selected)
        return fewest(found)

    def selected_at(self, node, sample):
        """What is selected at a node: the name of an attribute, "" for itself, None for nothing."""
        if node != sample.selected:
            return None
        return self.fresh if sample.attribute is None else sample.attribute

    def attribute_names(self, node, selected):
        """The names of the attributes of an element, each once."""
        names = [name for name in node.names if name is not None]
        if None in node.names and (names == [] or selected == self.fresh):
            names.append(self.fresh)
        return sorted(set(names))

    def rows_below(self, node, states):
        """The states of all children of an element together, with a list of elements for each."""
        rows = {0: []}
        for inner, is_child in node.below:
            found = states[inner] if is_child else self.lowered(states[inner])
            joined = {}
            for below in rows:
                for state in found:
                    if below | state not in joined:
                        joined[below | state] = [*rows[below], found[state]]
            rows = fewest(joined)
        return rows

    def lowered(self, found):
        """The states that there may be if elements of the fresh name stand above, with an element for each."""
        landings = self.landings
        tests = landings.passed_by(self.fresh)
        all_found = {state: found[state] for state in found}
        last = found
        length = 0
        while last != {} and length != self.most:
            length += 1
            above = {}
            for below in last:
                state = landings.state_of(tests, 0, False, below)
                if state not in all_found:
                    above[state] = Grown(self.fresh, [], [last[below]], None)
                    all_found[state] = above[state]
            last = above
        return fewest(all_found)


# Of more states than that it is not looked which ones have others in them.
MOST_COMPARED = 300


def fewest(found):
    """Those of some states that have no other one of them in them, with what belongs to them."""
    if len(found) > MOST_COMPARED:
        return found
    kept = {}
    for state in found:
        if [other for other in found if other != state and other & state == other] == []:
            kept[state] = found[state]
    return kept


def document_text(grown):
    """The text of a document with an outermost element, and the place of the selected node in it."""
    pieces = []
    place = ()
    waiting = [(grown, (0,))]
    while waiting != []:
        part, here = waiting.pop()
        if isinstance(part, str):
            pieces.append(part)
        else:
            pieces.append("<" + part.name + "".join([f' {name}=""' for name in part.names]))
            pieces.append("/>" if part.inside == [] else ">")
            if part.selected is not None:
                place = here if part.selected == "" else (*here, "@" + part.selected)
            if part.inside != []:
                waiting.append((f"</{part.name}>", ()))
                inner = [(child, (*here, at)) for at, child in enumerate(part.inside)]
                waiting.extend(inner[::-1])
    return "".join(pieces), place
