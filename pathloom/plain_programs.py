"""Plain stylesheets as programs: what each template leaves of its body."""

from pathloom.plain_bodies import is_literal, left_of, plain_select, plain_test
from pathloom.plainness import match_of


class Left:
    """What is left of a body or a content: items, and behind them what is applied to the children, or None.

    Items are tuples ("text", text) and ("made", name, attributes, Left). What
    is applied is a tuple (mode, names), with None for all names.
    """

    def __init__(self, items_left, applied):
        self.items_left = items_left
        self.applied = applied


class Program:
    """A plain stylesheet: `names` are all names that make a difference to it, `tested` those that are tested."""

    def __init__(self, top):
        self.bodies = {}
        self.known = {}
        names = {}
        tested = {}
        for template in top.content:
            match = match_of(template)
            self.bodies[(template.attribute_text("mode"), match)] = template.content
            if match not in ("*", "/"):
                names[match] = True
        for piece in pieces_below(top):
            if piece.is_word("if") or piece.is_word("when"):
                tested[plain_test(piece)[0]] = True
            elif piece.is_word("apply-templates"):
                for name in plain_select(piece):
                    names[name] = True
        self.tested = sorted(list(tested))
        self.names = [name for name in names if name != "*"] + self.tested

    def modes(self):
        """All modes, None among them, in which each element has a template."""
        return [mode for mode, match in self.bodies if match == "*"]

    def rule_for(self, mode, label):
        """The mode and the match of the template that processes elements with a label in a mode."""
        return (mode, label) if (mode, label) in self.bodies else (mode, "*")

    def left_for(self, mode, label, names):
        """What is left for an element with a label in a mode, if of the tested names these are among its children."""
        key = self.rule_for(mode, label)
        if (key, names) not in self.known:
            self.known[(key, names)] = left_in(self.bodies[key], names)
        return self.known[(key, names)]

    def left_of_document(self, label, names):
        """What is left for a document with an outermost element like this, without what is applied to the root."""
        if (None, "/") not in self.bodies:
            return self.left_for(None, label, names)
        at_root = left_in(self.bodies[(None, "/")], (label,))
        return self.without_applied(at_root, label, names)

    def without_applied(self, left, label, names):
        """What is left at the root, with what the outermost element leaves in the place of what is applied to it."""
        found = []
        for item in left.items_left:
            if item[0] == "made":
                found.append((*item[:3], self.without_applied(item[3], label, names)))
            else:
                found.append(item)
        if is_applied_to(left.applied, label):
            found.extend(self.left_for(left.applied[0], label, names).items_left)
        return Left(found, None)


def is_applied_to(applied, label):
    """Whether something is applied to the children with a label."""
    return applied is not None and (applied[1] is None or label in applied[1])


def pieces_below(top):
    """All parts below a piece."""
    found = []
    waiting = list(top.content)
    while waiting:
        piece = waiting.pop()
        found.append(piece)
        waiting.extend(piece.content)
    return found


def left_in(parts, names):
    """What is left of the parts of a body if of the tested names these are among the children."""
    found = []
    applied = None
    for part in left_of(parts, names):
        if is_literal(part):
            attributes = tuple([(attribute.name, attribute.text) for attribute in part.attributes])
            found.append(("made", part.name, attributes, left_in(part.content, names)))
        elif part.is_word("apply-templates"):
            selected = plain_select(part)
            mode = part.attribute_text("mode")
            applied = (mode, None) if selected == ["*"] else (mode, tuple(sorted(set(selected))))
        else:
            put_text(found, part.text if part.is_text() else part.content[0].text)
    return Left(found, applied)


def put_text(found, text):
    """Put a text behind items; two that meet are one."""
    if found != [] and found[-1][0] == "text":
        text = found.pop()[1] + text
    found.append(("text", text))


def fresh_name(names):
    """A name that is none of some others."""
    number = 0
    while f"e{number}" in names:
        number += 1
    return f"e{number}"
