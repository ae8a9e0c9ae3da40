"""Parts of plain stylesheets: tests, selects, and what is left of bodies."""

from pathloom.path_tokens import tokens_in


def texts_of_tokens(text):
    """The texts of the tokens of a path, and their sorts."""
    rows = tokens_in(text)[:-1]
    return [row[1] for row in rows], [row[0] for row in rows]


def plain_test(piece):
    """What an if or a when tests: the name, and whether a child of it must be there; None if it tests other things."""
    texts, sorts = texts_of_tokens(piece.attribute_text("test"))
    if sorts == ["name"]:
        return (texts[0], True)
    if sorts == ["name", "sign", "name", "sign"] and texts[:2] == ["not", "("] and texts[3] == ")":
        return (texts[2], False)
    return None


def plain_select(piece):
    """The names that an apply-templates selects, `*` alone for all; None if it selects other things."""
    text = piece.attribute_text("select")
    if text is None:
        return None
    texts, sorts = texts_of_tokens(text)
    if texts == ["*"]:
        return texts
    if [sort for sort in sorts[::2] if sort != "name"] != [] or [sign for sign in texts[1::2] if sign != "|"] != []:
        return None
    return texts[::2]


def is_literal(piece):
    """Whether a part of a body is a literal element."""
    return not piece.is_text() and not piece.name.startswith("xsl:")


def is_passed(piece, names):
    """Whether the test of an if or a when is passed if of the tested names these are among the children."""
    test = plain_test(piece)
    return test is not None and (test[0] in names) == test[1]


def left_of(parts, names):
    """The parts of a body that are carried out if of the tested names these are among the children."""
    found = []
    waiting = parts[::-1]
    while waiting:
        part = waiting.pop()
        if part.is_word("choose"):
            waiting.extend(chosen(part, names)[::-1])
        elif not part.is_word("if"):
            # An empty xsl:text counts as nothing.
            if not part.is_word("text") or part.content != []:
                found.append(part)
        elif is_passed(part, names):
            waiting.extend(part.content[::-1])
    return found


def chosen(choose, names):
    """The body that a choose carries out."""
    for part in choose.content:
        if part.is_word("otherwise") or part.is_word("when") and is_passed(part, names):
            return part.content
    return []


def subsets_of(names):
    """All sets of some names, as tuples in the order of the names."""
    found = [()]
    for name in names:
        found = found + [(*subset, name) for subset in found]
    return found
