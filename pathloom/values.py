"""The values of paths, as tuples (sort, what it is).

They are ("nodes", list), ("text", text), ("number", number), ("truth", bool)
and ("fragment", root of a result). The nodes of a list are in document order,
each once. A fragment counts as its text, but in comparisons.
"""

from pathloom.decimals import NAN, is_below, is_decimal, is_same, number_of_text, text_of_number, whole
from pathloom.errors import Failed
from pathloom.trees import string_value

MIRRORED = {"<": ">", "<=": ">=", ">": "<", ">=": "<=", "=": "=", "!=": "!="}
# What is compared by the string values of its nodes.
LISTS = ("nodes", "fragment")


def nodes_of(value):
    """The nodes of a value; Failed for what is no list of nodes."""
    if value[0] != "nodes":
        raise Failed("nodes")
    return value[1]


def to_text(value):
    """A value as a text."""
    sort = value[0]
    if sort == "text":
        return value[1]
    if sort == "nodes":
        return string_value(value[1][0]) if value[1] != [] else ""
    if sort == "number":
        return text_of_number(value[1])
    if sort == "truth":
        return "true" if value[1] else "false"
    return value[1].string()


def to_number(value):
    """A value as a number."""
    if value[0] == "number":
        return value[1]
    if value[0] == "truth":
        return whole(1 if value[1] else 0)
    return number_of_text(to_text(value))


def to_truth(value):
    """A value as a truth."""
    if value[0] == "nodes":
        return value[1] != []
    if value[0] == "number":
        return value[1] not in (0, NAN)
    if value[0] == "truth":
        return value[1]
    return value[0] == "fragment" or value[1] != ""


def texts_of(value):
    """The string values of a list of nodes, or the text of another value alone."""
    if value[0] == "nodes":
        return [string_value(node) for node in value[1]]
    return [to_text(value)]


def is_true_of(word, one, other):
    """Whether a comparison of two values is true."""
    if other[0] in LISTS:
        if one[0] in LISTS:
            return compare_lists(word, texts_of(one), texts_of(other))
        return is_true_of(MIRRORED[word], other, one)
    if one[0] not in LISTS:
        return compare_single(word, one, other)
    if other[0] == "truth":
        return compare_single(word, ("truth", to_truth(one)), other)
    for text in texts_of(one):
        if compare_single(word, ("text", text), other):
            return True
    return False


def compare_single(word, one, other):
    """Whether a comparison of two values that are no lists is true."""
    if word not in ("=", "!="):
        return compare_numbers(word, to_number(one), to_number(other))
    if "truth" in (one[0], other[0]):
        same = to_truth(one) == to_truth(other)
    elif "number" in (one[0], other[0]):
        same = is_same(to_number(one), to_number(other))
    else:
        same = one[1] == other[1]
    return same == (word == "=")


def compare_numbers(word, one, other):
    """Whether one of the four comparisons of the sizes of two numbers is true."""
    if word in (">", ">="):
        return compare_numbers(MIRRORED[word], other, one)
    return is_below(one, other) or word == "<=" and is_same(one, other)


def compare_lists(word, one, other):
    """Whether a comparison is true for some text of one list and some text of the other."""
    left = {text: True for text in one}
    right = {text: True for text in other}
    if word == "=":
        return [text for text in left if text in right] != []
    if word == "!=":
        return left != {} and right != {} and (len(left) > 1 or left != right)
    if word in (">", ">="):
        return compare_numbers(MIRRORED[word], least_number(right), greatest_number(left))
    return compare_numbers(word, least_number(left), greatest_number(right))


def least_number(texts):
    """The least number of some texts, NaN if none is a number."""
    decimals = decimals_of(texts)
    return min(decimals) if decimals != [] else NAN


def greatest_number(texts):
    """The greatest number of some texts, NaN if none is a number."""
    decimals = decimals_of(texts)
    return max(decimals) if decimals != [] else NAN


def decimals_of(texts):
    """The numbers of those texts that have one; it is never an infinite one."""
    numbers = [number_of_text(text) for text in texts]
    return [number for number in numbers if is_decimal(number)]
