"""The functions on texts."""

from pathloom.decimals import is_below, plus, round_of, whole


def words_of(text):
    """The words of a text: what stands between white space."""
    return [word for word in text.replace("\t", " ").replace("\n", " ").split(" ") if word != ""]


def text_before(text, part):
    """What is ahead of the first place of a part in a text."""
    at = text.find(part)
    return text[:at] if at >= 0 else ""


def text_after(text, part):
    """What is behind the first place of a part in a text."""
    at = text.find(part)
    return text[at + len(part):] if at >= 0 else ""


def text_from(text, start, length):
    """The signs of a text from a position on, as many as `length` tells, to the end if it is None."""
    first = round_of(start)
    found = []
    for at, sign in enumerate(text):
        position = whole(at + 1)
        is_in = is_at_least(position, first)
        if length is not None:
            is_in = is_in and is_below(position, plus(first, round_of(length)))
        if is_in:
            found.append(sign)
    return "".join(found)


def is_at_least(one, other):
    """Whether a number is equal to another one or above it."""
    return one == other or is_below(other, one)


def exchanged(text, olds, news):
    """A text with each sign among the old ones exchanged for the new one at the same index, or left out."""
    table = {}
    for at, sign in enumerate(olds):
        if sign not in table:
            table[sign] = news[at:at + 1]
    return "".join([table.get(sign, sign) for sign in text])
