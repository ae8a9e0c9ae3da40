"""How far a text goes like a document, told sign by sign.

This is written apart from the program, as a row of coroutines that are sent
one sign after another: each part gets its first sign, and returns the sign
behind its last one. A part that cannot go on with a sign raises Dead.
"""

LETTERS = "abcdefghijklmnopqrstuvwxyzABCDEFGHIJKLMNOPQRSTUVWXYZ_"
IN_WORDS = LETTERS + "0123456789-."
BLANKS = " \t\n"
SIGN_NUMBERS = [9, 10] + [number for number in range(32, 127) if number != 37]
REFERENCES = ["lt;", "gt;", "amp;", "quot;", "apos;"]
# Of several zeros at the front all but one are skipped.
DECIMALS = [form.format(number) for number in SIGN_NUMBERS for form in ("{};", "0{};")]
HEXADECIMALS = [
    form.format(number) for number in SIGN_NUMBERS for form in ("{:x};", "{:X};", "0{:x};", "0{:X};")
]
ALL_REFERENCES = REFERENCES + ["#" + one for one in DECIMALS] + ["#x" + one for one in HEXADECIMALS]
REFERENCE_BEGINNINGS = {one[:size] for one in ALL_REFERENCES for size in range(len(one) + 1)}


class Dead(Exception):
    pass


def must(sign, signs):
    if sign not in signs:
        raise Dead


def is_sign(sign):
    return sign in "\t\n" or 32 <= ord(sign) <= 126


def told(sign, text):
    for wanted in text:
        must(sign, wanted)
        sign = yield
    return sign


def blanks(sign):
    while sign in BLANKS:
        sign = yield
    return sign


def name(sign, out):
    must(sign, LETTERS)
    while sign in IN_WORDS:
        out.append(sign)
        sign = yield
    if sign == ":":
        out.append(sign)
        sign = yield
        must(sign, LETTERS)
        while sign in IN_WORDS:
            out.append(sign)
            sign = yield
    return sign


def reference(sign):
    so_far = ""
    must(sign, "&")
    while not so_far.endswith(";"):
        sign = yield
        if so_far in ("#0", "#x0") and sign == "0":
            continue
        so_far += sign
        if so_far not in REFERENCE_BEGINNINGS:
            raise Dead
    return (yield)


def up_to(sign, end):
    seen = ""
    while True:
        if not is_sign(sign):
            raise Dead
        seen += sign
        sign = yield
        if seen.endswith(end):
            return sign


def comment(sign):
    """A comment behind its `<!`."""
    sign = yield from told(sign, "--")
    minuses = 0
    while minuses < 2:
        if not is_sign(sign):
            raise Dead
        minuses = minuses + 1 if sign == "-" else 0
        sign = yield
    return (yield from told(sign, ">"))


def instruction(sign, may_declare=False):
    """An instruction, or perhaps the declaration, behind its `<`."""
    sign = yield from told(sign, "?")
    out = []
    sign = yield from name(sign, out)
    if may_declare and "".join(out) == "xml":
        must(sign, BLANKS)
        sign = yield
        return (yield from up_to(sign, "?>"))
    if "".join(out).lower() == "xml":
        raise Dead
    must(sign, BLANKS + "?")
    if sign == "?":
        return (yield from told(sign, "?>"))
    sign = yield from blanks(sign)
    return (yield from up_to(sign, "?>"))


def attribute(sign, names):
    out = []
    sign = yield from name(sign, out)
    if "".join(out) in names:
        raise Dead
    names.append("".join(out))
    sign = yield from blanks(sign)
    sign = yield from told(sign, "=")
    sign = yield from blanks(sign)
    must(sign, "'\"")
    quote = sign
    sign = yield
    while sign != quote:
        if sign == "&":
            sign = yield from reference(sign)
        elif sign == "<" or not is_sign(sign):
            raise Dead
        else:
            sign = yield
    return (yield)


def element(sign):
    out = []
    sign = yield from name(sign, out)
    names = []
    while sign in BLANKS:
        sign = yield from blanks(sign)
        if sign not in "/>":
            sign = yield from attribute(sign, names)
    must(sign, "/>")
    if sign == "/":
        return (yield from told(sign, "/>"))
    sign = yield
    brackets = 0
    while True:
        if sign == "<":
            brackets = 0
            sign = yield
            if sign == "/":
                sign = yield from told(sign, "/" + "".join(out))
                sign = yield from blanks(sign)
                return (yield from told(sign, ">"))
            sign = yield from markup(sign)
        elif sign == "&":
            brackets = 0
            sign = yield from reference(sign)
        elif not is_sign(sign) or sign == ">" and brackets >= 2:
            raise Dead
        else:
            brackets = brackets + 1 if sign == "]" else 0
            sign = yield


def markup(sign):
    """What stands in a content behind a `<`, but for an end tag."""
    if sign == "?":
        return (yield from instruction(sign))
    if sign != "!":
        return (yield from element(sign))
    sign = yield
    if sign == "[":
        sign = yield from told(sign, "[CDATA[")
        return (yield from up_to(sign, "]]>"))
    return (yield from comment(sign))


def document():
    sign = yield
    may_declare = True
    has_element = False
    while True:
        if sign in BLANKS:
            sign = yield from blanks(sign)
        else:
            must(sign, "<")
            sign = yield
            if sign == "!":
                sign = yield
                sign = yield from comment(sign)
            elif sign == "?":
                sign = yield from instruction(sign, may_declare)
            elif has_element:
                raise Dead
            else:
                has_element = True
                sign = yield from element(sign)
        may_declare = False


def longest_beginning(text):
    """The length of the longest beginning of a text with which some document begins."""
    run = document()
    next(run)
    for at, sign in enumerate(text):
        try:
            run.send(sign)
        except Dead:
            return at
    return len(text)
