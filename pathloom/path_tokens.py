"""The tokens of paths: tuples (sort, text, place).

Besides those that paths are made of there are three sorts that end a text:
"end", behind all its signs; "open", a text whose quotation mark is missing;
and "broken", anything with which no token begins, or only a part of one.
"""

from pathloom.signs import BLANKS, DIGITS, FIRST_SIGNS, end_of_name, end_of_run, is_sign

# Signs that are tokens by themselves, whatever stands behind them.
LONE_SIGNS = "@$*|+-=()[],"
# Those that may be longer by a told sign, and whether they are tokens without it.
LONGER_BY = {"/": "/", ":": ":", ".": ".", "!": "=", "<": "=", ">": "="}
BROKEN_ALONE = (":", "!")


def tokens_in(text):
    """The list of all tokens of a text as far as they go; the last one tells how it ends."""
    found = []
    at = 0
    size = len(text)
    while at < size:
        sign = text[at]
        if sign in BLANKS:
            at += 1
        elif sign in FIRST_SIGNS:
            end = end_of_name(text, at)
            found.append(("name", text[at:end], at))
            at = end
        elif sign in LONE_SIGNS:
            found.append(("sign", sign, at))
            at += 1
        else:
            token = token_at(text, at)
            found.append(token)
            if token[0] in ("open", "broken"):
                return found
            at += len(token[1])
    found.append(("end", "", size))
    return found


def token_at(text, at):
    """The longest token that begins at an index with a sign that is no letter and may not stand for itself."""
    sign = text[at]
    behind = text[at + 1:at + 2]
    if sign in DIGITS or sign == "." and is_digit(behind):
        return ("number", text[at:end_of_number(text, at)], at)
    if sign in ("'", '"'):
        return quoted_token(text, at)
    if sign in LONGER_BY and LONGER_BY[sign] == behind:
        return ("sign", sign + behind, at)
    if sign not in LONGER_BY or sign in BROKEN_ALONE:
        return ("broken", sign, at)
    return ("sign", sign, at)


def is_digit(sign):
    """Whether a sign is a digit; the empty text is none."""
    return sign != "" and sign in DIGITS


def end_of_digits(text, at):
    """The index of the first sign from an index on that is no digit."""
    return end_of_run(text, at, DIGITS)


def end_of_number(text, at):
    """The index behind the number that begins at an index."""
    end = end_of_digits(text, at)
    if text[end:end + 1] == ".":
        end = end_of_digits(text, end + 1)
    return end


def quoted_token(text, at):
    """The text in quotation marks that begins at an index."""
    end = at + 1
    while end < len(text) and text[end] != text[at] and is_sign(text[end]):
        end += 1
    if text[end:end + 1] == text[at]:
        return ("text", text[at:end + 1], at)
    return ("open", text[at:end], at)
