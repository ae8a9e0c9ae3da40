"""Parts of plain stylesheets: tests, selects, and what is left of bodies."""

from pathloom.modules import WHITE_SPACE
from pathloom.signs import is_name


def plain_test(piece):
    """What an if or a when tests: the name, and whether a child of it must be there; None if it tests other things."""
    text = piece.attribute_text("test").strip(WHITE_SPACE)
    if is_name(text):
        return (text, True)
    inner = text.removeprefix("not").lstrip(WHITE_SPACE)
    if inner != text and inner[:1] == "(" and inner.endswith(")"):
        name = inner[1:-1].strip(WHITE_SPACE)
        return (name, False) if is_name(name) else None
    return None


def plain_select(piece):
    """The names that an apply-templates selects, `*` alone for all; None if it selects other things."""
    text = piece.attribute_text("select")
    if text is None:
        return None
    names = [name.strip(WHITE_SPACE) for name in text.split("|")]
    if names == ["*"] or [name for name in names if not is_name(name)] == []:
        return names
    return None


def is_literal(piece):
    """Whether a part of a body is a literal element."""
    return piece.word is None and piece.name is not None


def is_passed(piece, names):
    """Whether the test of an if or a when is passed if of the tested names these are among the children."""
    test = plain_test(piece)
    return test is not None and (test[0] in names) == test[1]


def left_of(parts, names):
    """The parts of a body that are carried out if of the tested names these are among the children."""
    found = []
    waiting = parts[::-1]
    while waiting:
        part = waiting.pop()
        word = part.word
        if word == "choose":
            waiting.extend(chosen(part, names)[::-1])
        elif word != "if":
            # An empty xsl:text counts as nothing.
            if word != "text" or part.content != []:
                found.append(part)
        elif is_passed(part, names):
            waiting.extend(part.content[::-1])
    return found


def chosen(choose, names):
    """The body that a choose carries out."""
    for part in choose.content:
        if part.is_word("otherwise") or part.is_word("when") and is_passed(part, names):
            return part.content
    return []


def subsets_of(names):
    """All sets of some names, as tuples in the order of the names."""
    found = [()]
    for name in names:
        found = found + [(*subset, name) for subset in found]
    return found
