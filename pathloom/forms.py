"""The form of those paths of which it is told what they select on every document.

A path of this form becomes a list of ways, one for each path of the union; a
way is a list of steps (axis, name, tests), with None for any name. The axes
are child, descendant, descendant-or-self, self and attribute. A test is
("path", steps), ("and", test, test) or ("or", test, test).
"""

from pathloom.errors import NotForm
from pathloom.path_words import ANYTHING_BELOW, HERE
from pathloom.paths import tree_of

AXES_OF_FORM = ("child", "descendant", "descendant-or-self", "self", "attribute")
# What an axis is behind `descendant-or-self::node()`.
AXES_BELOW = {
    "child": "descendant", "descendant": "descendant", "self": "descendant-or-self",
    "descendant-or-self": "descendant-or-self",
}


def form_of(text):
    """The ways of a path; NotForm for a path of another form."""
    ways = []
    waiting = [tree_of(text)]
    while waiting != []:
        tree = waiting.pop()
        if tree[0] == "union":
            waiting.extend([tree[2], tree[1]])
        elif tree[0] != "path" or tree[1] != "root":
            raise NotForm("this is no path from the root")
        else:
            ways.append(steps_of_form(tree[2]))
    return ways


def steps_of_form(steps):
    """The steps of a way."""
    found = []
    is_below = False
    for at, step in enumerate(steps):
        if step == ANYTHING_BELOW:
            is_below = True
        elif step != HERE:
            axis, name, tests = step_of_form(step)
            if axis == "attribute":
                if at + 1 < len(steps):
                    raise NotForm("attributes stand last")
                # The attributes of the elements below are those of the node itself, too.
                if is_below:
                    found.append(("descendant-or-self", None, []))
            elif is_below:
                axis = AXES_BELOW[axis]
            found.append((axis, name, tests))
            is_below = False
    if is_below:
        raise NotForm("descendant-or-self::node() does not stand last")
    return found


def step_of_form(step):
    """A step that is told by its test."""
    axis, test, predicates = step
    if axis not in AXES_OF_FORM or test[0] == "kind" or axis == "attribute" and predicates != ():
        raise NotForm("this is no step of the form")
    return axis, test[1] if test[0] == "name" else None, [test_of_form(tree) for tree in predicates]


def test_of_form(tree):
    """The test that a predicate is."""
    if tree[0] in ("and", "or"):
        # Down the first operands without recursion: rows of operators may be long.
        rows = []
        while tree[0] in ("and", "or"):
            rows.append(tree)
            tree = tree[1]
        test = test_of_form(tree)
        for row in rows[::-1]:
            test = (row[0], test, test_of_form(row[2]))
        return test
    if tree[0] != "path" or tree[1] is not None:
        raise NotForm("this is no predicate of the form")
    return ("path", steps_of_form(tree[2]))
