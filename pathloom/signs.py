"""The signs that documents are made of, and what their words begin and go on with."""

# The percent sign is left out: it is the one sign that no reference stands for.
REFERABLE = (
    "\t\n !\"#$&'()*+,-./0123456789:;<=>?@"
    "ABCDEFGHIJKLMNOPQRSTUVWXYZ[\\]^_`abcdefghijklmnopqrstuvwxyz{|}~"
)


def is_blank(sign):
    """Whether a sign is a blank; the empty text, which stands behind a text's end, is none."""
    return sign in (" ", "\t", "\n")


def is_sign(character):
    """Whether a character may stand in a document at all."""
    return " " <= character <= "~" or character in ("\t", "\n")


def end_of_signs(text):
    """The index of the first character that is no sign, or the length of the text."""
    for at, character in enumerate(text):
        if not is_sign(character):
            return at
    return len(text)


def begins_word(sign):
    """Whether a word may begin with a sign."""
    return sign == "_" or sign.isascii() and sign.isalpha()


def goes_on_in_word(sign):
    """Whether a sign may stand in a word behind its first one."""
    return sign in ("_", "-", ".") or sign.isascii() and sign.isalnum()


def referred_sign(number):
    """The sign that a reference by a number stands for, the empty text if there is none."""
    for sign in REFERABLE:
        if ord(sign) == number:
            return sign
    return ""


def leads_to_sign(number, base):
    """Whether a number, perhaps with more digits behind it, is that of a sign."""
    for sign in REFERABLE:
        if is_beginning(number, ord(sign), base):
            return True
    return False


def is_beginning(number, whole, base):
    """Whether the digits of a whole number begin with those of a number, if zeros may stand ahead."""
    while whole > number:
        whole = whole // base
    return whole == number
