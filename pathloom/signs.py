"""The signs that documents are made of, and what their words begin and go on with."""

# The percent sign is left out: it is the one sign that no reference stands for.
REFERABLE = (
    "\t\n !\"#$&'()*+,-./0123456789:;<=>?@"
    "ABCDEFGHIJKLMNOPQRSTUVWXYZ[\\]^_`abcdefghijklmnopqrstuvwxyz{|}~"
)

BLANKS = " \t\n"
DIGITS = "0123456789"
# What words begin with, and what they go on with.
FIRST_SIGNS = "_ABCDEFGHIJKLMNOPQRSTUVWXYZabcdefghijklmnopqrstuvwxyz"
WORD_SIGNS = "_-.0123456789ABCDEFGHIJKLMNOPQRSTUVWXYZabcdefghijklmnopqrstuvwxyz"
# How many signs are looked at together.
PIECE = 32
# All signs that stand in no word become spaces.
WORDS_ALONE = {
    9: " ", 10: " ", 33: " ", 34: " ", 35: " ", 36: " ", 37: " ", 38: " ", 39: " ", 40: " ", 41: " ", 42: " ", 43: " ",
    44: " ", 47: " ", 58: " ", 59: " ", 60: " ", 61: " ", 62: " ", 63: " ", 64: " ", 91: " ", 92: " ", 93: " ",
    94: " ", 96: " ", 123: " ", 124: " ", 125: " ", 126: " ",
}


def end_of_run(text, at, signs):
    """The index of the first sign of a text from an index on that is none of some signs."""
    while True:
        piece = text[at:at + PIECE]
        rest = piece.lstrip(signs)
        at += len(piece) - len(rest)
        if rest != "" or piece == "":
            return at


def words_alone(text):
    """A text of signs with a space in the place of each sign that stands in no word, and behind it."""
    return text.translate(WORDS_ALONE) + " "


def is_word(text):
    """Whether a whole text is a word."""
    return begins_word(text[:1]) and text.lstrip(WORD_SIGNS) == ""


def is_name(text):
    """Whether a whole text is a name."""
    if is_word(text):
        return True
    first, _, second = text.partition(":")
    return is_word(first) and is_word(second)


def is_blank(sign):
    """Whether a sign is a blank; the empty text, which stands behind a text's end, is none."""
    return sign in (" ", "\t", "\n")


def is_sign(character):
    """Whether a character may stand in a document at all."""
    return " " <= character <= "~" or character in ("\t", "\n")


def end_of_signs(text):
    """The index of the first character that is no sign, or the length of the text."""
    if is_plain(text) or is_plain(text.replace("\n", "").replace("\t", "")):
        return len(text)
    for at, character in enumerate(text):
        if not is_sign(character):
            return at
    return len(text)


def is_plain(text):
    """Whether a text consists of signs that are no tabs and no line feeds."""
    return text.isascii() and text.isprintable()


def begins_word(sign):
    """Whether a word may begin with a sign; the empty text, which stands behind a text's end, is none."""
    return sign != "" and sign in FIRST_SIGNS


def goes_on_in_word(sign):
    """Whether a sign may stand in a word behind its first one."""
    return sign != "" and sign in WORD_SIGNS


def referred_sign(number):
    """The sign that a reference by a number stands for, the empty text if there is none."""
    for sign in REFERABLE:
        if ord(sign) == number:
            return sign
    return ""


def leads_to_sign(number, base):
    """Whether a number, perhaps with more digits behind it, is that of a sign."""
    for sign in REFERABLE:
        if is_beginning(number, ord(sign), base):
            return True
    return False


def is_beginning(number, whole, base):
    """Whether the digits of a whole number begin with those of a number, if zeros may stand ahead."""
    while whole > number:
        whole = whole // base
    return whole == number
