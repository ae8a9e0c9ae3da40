"""The texts of trees of paths: the canonical ones, and those with abbreviated steps."""

from pathloom.path_words import ABOVE, ANYTHING_BELOW, HERE, KIND_WORDS, RANKS

# The operators that would be read as a test or a name behind a path that ends with `/`.
LIKE_TESTS = ("*", "and", "or", "div", "mod")


def path_text(tree, short):
    """The text of a tree, if `short` with abbreviated steps."""
    # Down the first operands without recursion: rows of operators may be long.
    rows = []
    while tree[0] in RANKS:
        rows.append(tree)
        tree = tree[1]
    text = operand_text(tree, short)
    for row in rows[::-1]:
        if row[0] == "neg":
            text = "-" + bracketed(text, rank_in(tree) < RANKS["neg"])
        else:
            text = binary_text(row, text, short)
        tree = row
    return text


def rank_in(tree):
    """The rank of the operator that a tree is, a greater one than any if it is none."""
    return RANKS.get(tree[0], 9)


def binary_text(tree, left, short):
    """The text of an operator with two operands, of which the text of the left one is there."""
    word, one, other = tree
    rank = RANKS[word]
    if rank_in(one) < rank or word in LIKE_TESTS and left.endswith("/"):
        left = "(" + left + ")"
    if other[0] in RANKS:
        right = bracketed(path_text(other, short), RANKS[other[0]] <= rank)
    else:
        right = operand_text(other, short)
    return left + (" | " if word == "union" else " " + word + " ") + right


def bracketed(text, needed):
    """A text, in brackets where they are needed."""
    return "(" + text + ")" if needed else text


def operand_text(tree, short):
    """The text of a tree that is no operator."""
    word = tree[0]
    if word == "path":
        if tree[1] is None and len(tree[2]) == 1:
            return step_text(tree[2][0], short)
        return location_text(tree, short)
    if word == "number":
        return tree[1]
    if word == "text":
        return quoted(tree[1])
    if word == "var":
        return "$" + tree[1]
    if word == "filter":
        return primary_text(tree[1], ("var", "text", "number", "call"), short) + predicates_text(tree[2], short)
    return tree[1] + "(" + ", ".join([path_text(part, short) for part in tree[2]]) + ")"


def primary_text(tree, bare, short):
    """The text of what has predicates or steps behind it, in brackets unless it is of a bare sort."""
    return bracketed(path_text(tree, short), tree[0] not in bare)


def quoted(text):
    """A text in quotation marks that are not in it."""
    return '"' + text + '"' if "'" in text else "'" + text + "'"


def predicates_text(predicates, short):
    """The text of predicates."""
    return "".join(["[" + path_text(predicate, short) + "]" for predicate in predicates])


def location_text(tree, short):
    """The text of a location path."""
    _, start, steps = tree
    if start is None:
        return steps_text(steps, False, short, short)
    if start == "root":
        return steps_text(steps, True, short, short) if steps != () else "/"
    front = primary_text(start, ("var", "text", "number", "call", "filter"), short)
    return front + steps_text(steps, True, short, short)


def steps_text(steps, behind_slash, slashes, short):
    """The text of steps, `//` made of some of them if `slashes`, abbreviated if `short`."""
    if len(steps) == 1:
        return ("/" if behind_slash else "") + step_text(steps[0], short)
    pieces = []
    slash = "/" if behind_slash else ""
    for at, step in enumerate(steps):
        if slashes and slash == "/" and step == ANYTHING_BELOW and at + 1 < len(steps):
            slash = "//"
        else:
            pieces.append(slash + step_text(step, short))
            slash = "/"
    return "".join(pieces)


def step_text(step, short):
    """The text of a step."""
    axis, test, predicates = step
    if short and step == HERE:
        return "."
    if short and step == ABOVE:
        return ".."
    ahead = axis + "::"
    if short and axis in ("child", "attribute"):
        ahead = "" if axis == "child" else "@"
    text = ahead + (test[1] if test[0] == "name" else test_text(test))
    return text + predicates_text(predicates, short) if predicates != () else text


def test_text(test):
    """The text of a test that is no name."""
    if test[0] == "any":
        return "*"
    target = quoted(test[2]) if test[2] is not None else ""
    return KIND_WORDS[test[1]] + "(" + target + ")"
