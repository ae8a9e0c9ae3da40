"""The texts of trees of paths: the canonical ones, and those with abbreviated steps."""

from pathloom.path_words import ABOVE, ANYTHING_BELOW, HERE, KIND_WORDS, RANKS, is_operation


def path_text(tree, short):
    """The text of a tree, if `short` with abbreviated steps."""
    # Down the first operands without recursion: rows of operators may be long.
    rows = []
    while is_operation(tree):
        rows.append(tree)
        tree = tree[1]
    text = operand_text(tree, short)
    for row in rows[::-1]:
        if row[0] == "neg":
            text = "-" + bracketed(text, needs_brackets(tree, "neg", False))
        else:
            text = binary_text(row, text, short)
        tree = row
    return text


def binary_text(tree, left, short):
    """The text of an operator with two operands, of which the text of the left one is there."""
    word = tree[0]
    behind_slash = word in ("*", "and", "or", "div", "mod") and left.endswith("/")
    left = bracketed(left, behind_slash or needs_brackets(tree[1], word, False))
    right = bracketed(path_text(tree[2], short), needs_brackets(tree[2], word, True))
    return left + (" | " if word == "union" else " " + word + " ") + right


def bracketed(text, needed):
    """A text, in brackets where they are needed."""
    return "(" + text + ")" if needed else text


def needs_brackets(operand, word, is_right):
    """Whether an operand of an operator stands in brackets for the operator that is in it."""
    if not is_operation(operand):
        return False
    return RANKS[operand[0]] < RANKS[word] or is_right and RANKS[operand[0]] == RANKS[word]


def operand_text(tree, short):
    """The text of a tree that is no operator."""
    if tree[0] == "path":
        return location_text(tree, short)
    if tree[0] == "filter":
        return primary_text(tree[1], ("var", "text", "number", "call"), short) + predicates_text(tree[2], short)
    if tree[0] == "call":
        return tree[1] + "(" + ", ".join([path_text(part, short) for part in tree[2]]) + ")"
    if tree[0] == "var":
        return "$" + tree[1]
    return quoted(tree[1]) if tree[0] == "text" else tree[1]


def primary_text(tree, bare, short):
    """The text of what has predicates or steps behind it, in brackets unless it is of a bare sort."""
    return bracketed(path_text(tree, short), tree[0] not in bare)


def quoted(text):
    """A text in quotation marks that are not in it."""
    return '"' + text + '"' if "'" in text else "'" + text + "'"


def predicates_text(predicates, short):
    """The text of predicates."""
    return "".join(["[" + path_text(predicate, short) + "]" for predicate in predicates])


def location_text(tree, short):
    """The text of a location path."""
    start = ""
    if tree[1] is not None and tree[1] != "root":
        start = primary_text(tree[1], ("var", "text", "number", "call", "filter"), short)
    if tree[2] == ():
        return "/"
    return start + steps_text(tree[2], tree[1] is not None, short, short)


def steps_text(steps, behind_slash, slashes, short):
    """The text of steps, `//` made of some of them if `slashes`, abbreviated if `short`."""
    pieces = []
    slash = "/" if behind_slash else ""
    for at, step in enumerate(steps):
        if slashes and slash == "/" and step == ANYTHING_BELOW and at + 1 < len(steps):
            slash = "//"
        else:
            pieces.append(slash + step_text(step, short))
            slash = "/"
    return "".join(pieces)


def step_text(step, short):
    """The text of a step."""
    axis, test, predicates = step
    if short and step == HERE:
        return "."
    if short and step == ABOVE:
        return ".."
    ahead = axis + "::"
    if short and axis in ("child", "attribute"):
        ahead = "" if axis == "child" else "@"
    return ahead + test_text(test) + predicates_text(predicates, short)


def test_text(test):
    """The text of a test."""
    if test[0] == "name":
        return test[1]
    if test[0] == "any":
        return "*"
    target = quoted(test[2]) if test[2] is not None else ""
    return KIND_WORDS[test[1]] + "(" + target + ")"
