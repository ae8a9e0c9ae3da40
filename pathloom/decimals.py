"""Numbers: decimals of at most nine digits behind the point, and those that are none.

A decimal is held as the whole number of its billionths. The others are the
texts "NaN", "Infinity" and "-Infinity".
"""

from pathloom.path_tokens import end_of_digits, end_of_number, is_digit

UNIT = 1000000000
HALF = 500000000
MOST_DIGITS = 600
NAN = "NaN"
INFINITY = "Infinity"
BELOW_ALL = "-Infinity"


def is_decimal(number):
    """Whether a number is a decimal."""
    return isinstance(number, int)


def whole(count):
    """The number of a whole number."""
    return count * UNIT


def index_of_position(number):
    """The index that a number means as a position, below zero if it means none."""
    if not is_decimal(number) or number // UNIT * UNIT != number:
        return -1
    return number // UNIT - 1


def rounded_quotient(number, divisor):
    """The whole number next to a quotient of whole numbers; of two that are as near the one farther from zero."""
    size = (2 * abs(number) + abs(divisor)) // (2 * abs(divisor))
    return size if (number < 0) == (divisor < 0) else -size


def number_of_text(text):
    """The number of a text."""
    text = text.strip(" \t\n")
    if is_short_row(text):
        return int(text) * UNIT
    size = text.removeprefix("-")
    start_is_right = is_digit(size[:1]) or size[:1] == "." and is_digit(size[1:2])
    if not start_is_right or end_of_number(size, 0) != len(size):
        return NAN
    number = decimal_of(size)
    return -number if size != text else number


def is_short_row(text):
    """Whether a text is a row of digits that is not too long for Python itself to convert."""
    return text.isdigit() and text.isascii() and len(text) <= MOST_DIGITS


def decimal_of(text):
    """The decimal of digits with or without a point, rounded."""
    front, _, fraction = text.partition(".")
    digits = front + fraction[:9].ljust(9, "0")
    number = 0
    if is_short_row(digits):
        number = int(digits)
    else:
        # Digit by digit, as Python converts long texts at most as far as it is told to.
        for sign in digits:
            number = number * 10 + (ord(sign) - ord("0"))
    return number + 1 if fraction[9:10] >= "5" else number


def text_of_number(number):
    """The text of a number."""
    if not is_decimal(number):
        return number
    front, behind = divmod(abs(number), UNIT)
    fraction = str(behind).zfill(9).rstrip("0")
    sign = "-" if number < 0 else ""
    return sign + str(front) + ("." + fraction if fraction != "" else "")


def is_decimal_text(text):
    """Whether a text is a decimal as a priority is written: perhaps a minus, digits, at most one point."""
    size = text.removeprefix("-")
    end = end_of_digits(size, 0)
    if size[end:end + 1] == ".":
        end = end_of_digits(size, end + 1)
    return end == len(size) and size not in ("", ".")


def negated(number):
    """Minus a number."""
    if is_decimal(number):
        return -number
    if number == NAN:
        return NAN
    return BELOW_ALL if number == INFINITY else INFINITY


def is_below_zero(number):
    """Whether a number is below zero."""
    return number == BELOW_ALL or is_decimal(number) and number < 0


def infinite(below_zero):
    """The infinite number below, or above, zero."""
    return BELOW_ALL if below_zero else INFINITY


def plus(one, other):
    """The sum of two numbers."""
    if is_decimal(one) and is_decimal(other):
        return one + other
    if NAN in (one, other) or not is_decimal(one) and not is_decimal(other) and one != other:
        return NAN
    return other if is_decimal(one) else one


def minus(one, other):
    """The difference of two numbers."""
    return plus(one, negated(other))


def times(one, other):
    """The product of two numbers."""
    if is_decimal(one) and is_decimal(other):
        return rounded_quotient(one * other, UNIT)
    if NAN in (one, other) or one == 0 or other == 0:
        return NAN
    return infinite(is_below_zero(one) != is_below_zero(other))


def divided(one, other):
    """The quotient of two numbers."""
    if NAN in (one, other) or not is_decimal(one) and not is_decimal(other):
        return NAN
    if not is_decimal(other):
        return 0
    if is_decimal(one) and other != 0:
        return rounded_quotient(one * UNIT, other)
    if one == 0:
        return NAN
    return infinite(is_below_zero(one) != is_below_zero(other))


def remainder(one, other):
    """What the division that is cut off towards zero leaves of the first number."""
    if NAN in (one, other) or not is_decimal(one) or other == 0:
        return NAN
    if not is_decimal(other):
        return one
    rest = abs(one) % abs(other)
    return -rest if one < 0 else rest


OPERATION_OF = {"+": plus, "-": minus, "*": times, "div": divided, "mod": remainder}


def is_below(one, other):
    """Whether a number is below another one."""
    if NAN in (one, other):
        return False
    if is_decimal(one) and is_decimal(other):
        return one < other
    return one != other and (one == BELOW_ALL or other == INFINITY)


def is_same(one, other):
    """Whether two numbers are equal."""
    return one == other and one != NAN


def floor_of(number):
    """The greatest whole number that is not above a number."""
    return number // UNIT * UNIT if is_decimal(number) else number


def ceiling_of(number):
    """The least whole number that is not below a number."""
    return -(-number // UNIT) * UNIT if is_decimal(number) else number


def round_of(number):
    """The whole number next to a number; of two that are as near the greater one."""
    return floor_of(number + HALF) if is_decimal(number) else number
