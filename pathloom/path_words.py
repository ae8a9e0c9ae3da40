"""The words and signs that have a meaning in paths."""

# From the least to the most binding.
RANKS = {
    "or": 1, "and": 2, "=": 3, "!=": 3, "<": 4, "<=": 4, ">": 4, ">=": 4,
    "+": 5, "-": 5, "*": 6, "div": 6, "mod": 6, "neg": 7, "union": 8,
}
OPERATOR_WORDS = ("and", "or", "div", "mod")
OPERATOR_OF_SIGN = {
    "=": "=", "!=": "!=", "<": "<", "<=": "<=", ">": ">", ">=": ">=", "+": "+", "-": "-", "*": "*", "|": "union",
}

AXES = (
    "ancestor", "ancestor-or-self", "attribute", "child", "descendant", "descendant-or-self", "following",
    "following-sibling", "namespace", "parent", "preceding", "preceding-sibling", "self",
)
KINDS = {"node": "node", "text": "text", "comment": "comment", "processing-instruction": "instruction"}
KIND_WORDS = {"node": "node", "text": "text", "comment": "comment", "instruction": "processing-instruction"}

# Behind each function word stand the least and the greatest number of its arguments; None is any number.
FUNCTIONS = {
    "current": (0, 0), "false": (0, 0), "last": (0, 0), "position": (0, 0), "true": (0, 0),
    "generate-id": (0, 1), "local-name": (0, 1), "name": (0, 1), "normalize-space": (0, 1), "number": (0, 1),
    "string": (0, 1), "string-length": (0, 1),
    "boolean": (1, 1), "ceiling": (1, 1), "count": (1, 1), "document": (1, 1), "floor": (1, 1), "id": (1, 1),
    "not": (1, 1), "round": (1, 1), "sum": (1, 1),
    "contains": (2, 2), "key": (2, 2), "starts-with": (2, 2), "substring-after": (2, 2), "substring-before": (2, 2),
    "substring": (2, 3), "translate": (3, 3), "concat": (2, None),
}

# What a call gives, if no text.
SORTS_OF_CALLS = {
    "current": "nodes", "document": "nodes", "id": "nodes", "key": "nodes",
    "boolean": "truth", "contains": "truth", "false": "truth", "not": "truth", "starts-with": "truth", "true": "truth",
    "ceiling": "number", "count": "number", "floor": "number", "last": "number", "number": "number",
    "position": "number", "round": "number", "string-length": "number", "sum": "number",
}
SORTS_OF_OPERATIONS = {
    "or": "truth", "and": "truth", "=": "truth", "!=": "truth", "<": "truth", "<=": "truth", ">": "truth",
    ">=": "truth", "+": "number", "-": "number", "*": "number", "div": "number", "mod": "number", "neg": "number",
    "union": "nodes",
}

# What `//`, `.` and `..` mean.
ANYTHING_BELOW = ("descendant-or-self", ("kind", "node", None), ())
HERE = ("self", ("kind", "node", None), ())
ABOVE = ("parent", ("kind", "node", None), ())


def is_operation(tree):
    """Whether a tree is an operator with its operands."""
    return tree[0] in RANKS


def sort_of_value(tree):
    """The sort of the value of a tree; None if it hangs on a variable."""
    word = tree[0]
    if word in ("path", "filter"):
        return "nodes"
    if word == "call":
        return SORTS_OF_CALLS.get(tree[1], "text")
    if word == "var":
        return None
    return SORTS_OF_OPERATIONS.get(word, word)


def parts_of(tree):
    """The trees that are directly in a tree, those of predicates and arguments among them."""
    if is_operation(tree):
        return list(tree[1:])
    if tree[0] == "filter":
        return [tree[1], *tree[2]]
    if tree[0] == "call":
        return list(tree[2])
    if tree[0] != "path":
        return []
    parts = [tree[1]] if tree[1] not in (None, "root") else []
    for _, _, predicates in tree[2]:
        parts.extend(predicates)
    return parts


def variables_in(tree):
    """The names of all variables in a tree."""
    found = []
    waiting = [tree]
    while waiting:
        part = waiting.pop()
        if part[0] == "var":
            found.append(part[1])
        waiting.extend(parts_of(part))
    return found
