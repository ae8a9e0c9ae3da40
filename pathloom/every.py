"""What holds of paths on every document."""

from pathloom.documents import read
from pathloom.errors import NotDocument
from pathloom.forms import form_of
from pathloom.landings import Landings
from pathloom.places import node_in
from pathloom.samples import samples_of
from pathloom.searching import LENGTHS, Search, document_text
from pathloom.selecting import select


def contained(one, other):
    """Whether on every document each node that the first path selects is selected by the second one."""
    ways = form_of(one)
    return is_contained(ways, form_of(other))


def equivalent(one, other):
    """Whether both paths select the same nodes on every document."""
    ways = form_of(one)
    others = form_of(other)
    return is_contained(ways, others) and is_contained(others, ways)


def counterexample(one, other):
    """A document and the place of a node that the first path selects and the second one does not, or None."""
    ways = form_of(one)
    others = form_of(other)
    if is_contained(ways, others):
        return None
    for most in LENGTHS:
        found = found_by(ways, others, most)
        if found is not None:
            return document_text(found)
    return None


def is_counterexample(thing, one, other):
    """Whether a thing is a document and the place of a node that the first path selects and the second one does not."""
    form_of(one)
    form_of(other)
    if not isinstance(thing, tuple) or len(thing) != 2 or not isinstance(thing[0], str):
        return False
    try:
        tree = read(thing[0])
    except NotDocument:
        return False
    if node_in(tree, thing[1]) is None:
        return False
    return thing[1] in select(one, tree)[1] and thing[1] not in select(other, tree)[1]


def example(one):
    """A document and the place of a node that the path selects, None if it selects nothing on any document."""
    found = found_by(form_of(one), [], 0)
    return document_text(found) if found is not None else None


def is_contained(ways, others):
    """Whether ways select only what others select."""
    return found_by(ways, others, None) is None


def found_by(ways, others, most):
    """The outermost element of a document on which ways select what others do not, None if there is none."""
    search = Search(Landings(others), names_in(ways + others), most)
    for sample in samples_of(ways):
        found = search.found_in(sample)
        if found is not None:
            return found
    return None


def names_in(ways):
    """All names in ways, their tests too."""
    names = []
    waiting = [("path", steps) for steps in ways]
    while waiting != []:
        test = waiting.pop()
        if test[0] == "path":
            for _, name, tests in test[1]:
                names.append(name)
                waiting.extend(tests)
        else:
            waiting.extend(test[1:])
    return names
