"""The tokens of paths: tuples (sort, text, place).

Besides those that paths are made of there are three sorts that end a text:
"end", behind all its signs; "open", a text whose quotation mark is missing;
and "broken", anything with which no token begins, or only a part of one.
"""

from pathloom.signs import BLANKS, DIGITS, FIRST_SIGNS, begins_word, end_of_run, end_of_signs, words_alone

# Signs that are tokens by themselves, whatever stands behind them.
LONE_SIGNS = "@$*|+-=()[],"
# Those that may be longer by a told sign, and whether they are tokens without it.
LONGER_BY = {"/": "/", ":": ":", ".": ".", "!": "=", "<": "=", ">": "="}
BROKEN_ALONE = (":", "!")


def tokens_in(text):
    """The list of all tokens of a text as far as they go; the last one tells how it ends."""
    size = end_of_signs(text)
    if size < len(text):
        return tokens_ahead_of_end(text, size)
    found = []
    words = words_alone(text)
    at = 0
    while at < size:
        sign = text[at]
        if sign in FIRST_SIGNS:
            end = words.find(" ", at)
            if text[end:end + 1] == ":" and begins_word(text[end + 1:end + 2]):
                end = words.find(" ", end + 1)
            found.append(("name", text[at:end], at))
            at = end
        elif sign in BLANKS:
            at += 1
        elif sign in LONE_SIGNS:
            found.append(("sign", sign, at))
            at += 1
        elif sign == "/":
            word = "//" if text.startswith("//", at) else "/"
            found.append(("sign", word, at))
            at += len(word)
        else:
            token = token_at(text, at, words.find(" ", at))
            found.append(token)
            if token[0] in ("open", "broken"):
                return found
            at += len(token[1])
    found.append(("end", "", size))
    return found


def tokens_ahead_of_end(text, size):
    """The tokens of a text of which no sign stands at an index."""
    found = tokens_in(text[:size])
    if found[-1][0] == "end":
        found[-1] = ("broken", text[size], size)
    return found


def token_at(text, at, end):
    """The token at an index, of a sign that is no letter and may not stand for itself; its word ends at `end`."""
    sign = text[at]
    word = text[at:end]
    if word.isdigit() or word.replace(".", "", 1).isdigit():
        return ("number", word, at)
    behind = text[at + 1:at + 2]
    if sign in DIGITS or sign == "." and behind.isdigit():
        return ("number", text[at:end_of_number(text, at)], at)
    if sign in ("'", '"'):
        return quoted_token(text, at)
    if sign in LONGER_BY and LONGER_BY[sign] == behind:
        return ("sign", sign + behind, at)
    if sign not in LONGER_BY or sign in BROKEN_ALONE:
        return ("broken", sign, at)
    return ("sign", sign, at)


def is_digit(sign):
    """Whether a sign is a digit; the empty text is none."""
    return sign != "" and sign in DIGITS


def end_of_digits(text, at):
    """The index of the first sign from an index on that is no digit."""
    return end_of_run(text, at, DIGITS)


def end_of_number(text, at):
    """The index behind the number that begins at an index."""
    end = end_of_digits(text, at)
    if text[end:end + 1] == ".":
        end = end_of_digits(text, end + 1)
    return end


def quoted_token(text, at):
    """The text in quotation marks that begins at an index."""
    end = text.find(text[at], at + 1)
    if end < 0:
        return ("open", text[at:], at)
    return ("text", text[at:end + 1], at)
