"""The tokens of paths: tuples (sort, text, place).

Besides those that paths are made of there are three sorts that end a text:
"end", behind all its signs; "open", a text whose quotation mark is missing;
and "broken", anything with which no token begins, or only a part of one.
"""

from pathloom.path_words import SIGNS
from pathloom.signs import begins_word, goes_on_in_word, is_blank, is_sign

DIGITS = "0123456789"


def tokens_in(text):
    """The list of all tokens of a text as far as they go; the last one tells how it ends."""
    found = []
    at = 0
    while True:
        at = end_of_blanks(text, at)
        token = token_at(text, at)
        found.append(token)
        if token[0] in ("end", "open", "broken"):
            return found
        at += len(token[1])


def end_of_blanks(text, at):
    """The index of the first sign from an index on that is no blank."""
    while is_blank(text[at:at + 1]):
        at += 1
    return at


def token_at(text, at):
    """The longest token that begins at an index."""
    sign = text[at:at + 1]
    if sign == "":
        return ("end", "", at)
    if begins_word(sign):
        return ("name", text[at:end_of_name(text, at)], at)
    if is_digit(sign) or sign == "." and is_digit(text[at + 1:at + 2]):
        return ("number", text[at:end_of_number(text, at)], at)
    if sign in ("'", '"'):
        return quoted_token(text, at)
    for word in SIGNS:
        if text.startswith(word, at):
            return ("sign", word, at)
    return ("broken", sign, at)


def is_digit(sign):
    """Whether a sign is a digit; the empty text is none."""
    return sign != "" and sign in DIGITS


def end_of_name(text, at):
    """The index behind the name that begins at an index."""
    end = end_of_word(text, at)
    if text[end:end + 1] == ":" and begins_word(text[end + 1:end + 2]):
        end = end_of_word(text, end + 1)
    return end


def end_of_word(text, at):
    """The index behind the word that begins at an index."""
    while goes_on_in_word(text[at:at + 1]):
        at += 1
    return at


def end_of_digits(text, at):
    """The index of the first sign from an index on that is no digit."""
    while is_digit(text[at:at + 1]):
        at += 1
    return at


def end_of_number(text, at):
    """The index behind the number that begins at an index."""
    end = end_of_digits(text, at)
    if text[end:end + 1] == ".":
        end = end_of_digits(text, end + 1)
    return end


def quoted_token(text, at):
    """The text in quotation marks that begins at an index."""
    end = at + 1
    while end < len(text) and text[end] != text[at] and is_sign(text[end]):
        end += 1
    if text[end:end + 1] == text[at]:
        return ("text", text[at:end + 1], at)
    return ("open", text[at:end], at)


def is_name(text):
    """Whether a whole text is a name."""
    return begins_word(text[:1]) and end_of_name(text, 0) == len(text)
