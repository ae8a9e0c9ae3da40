"""The elements of stylesheets: their attributes and their content, and the faults of these."""

from pathloom.attribute_values import BadAttribute, read_value
from pathloom.errors import NotSheet
from pathloom.modules import PREFIX
from pathloom.path_words import variables_in
from pathloom.sheet_words import AHEAD_OF_BODY, ATTRIBUTES, BODIES, CONTENTS, INSTRUCTIONS, MOST_LEVELS

UNSEEN = ("xsl:version", "xmlns:xsl", "xml:space")
SETS = "xsl:use-attribute-sets"


def read_attributes(piece):
    """Read the attributes of an element of stylesheets."""
    word = piece.word
    for name, sort, is_required in ATTRIBUTES[word]:
        text = piece.attribute_text(name)
        if text is not None:
            put_value(piece, name, sort, text)
        elif is_required:
            raise NotSheet(piece.place, "attribute")
    if len(piece.meant) < len(piece.attributes):
        for attribute in piece.attributes:
            if attribute.name not in piece.meant and ":" not in attribute.name:
                raise NotSheet(piece.place, "attribute")
    check_together(piece, word)


def put_value(piece, name, sort, text):
    """Keep what an attribute means, and the trees of the expressions in it."""
    try:
        value = read_value(sort, text)
    except BadAttribute as wrong:
        raise NotSheet(piece.place, wrong.fault) from None
    piece.meant[name] = value
    if "$" in text:
        if sort == "path":
            piece.variables.extend(variables_in(value))
        elif sort == "template":
            for kind, part in value:
                if kind == "path":
                    piece.variables.extend(variables_in(part))


def check_together(piece, word):
    """Look for attributes that do not go together, or not with the content."""
    values = piece.meant
    wrong = False
    if word == "template":
        wrong = "match" not in values and ("name" not in values or "mode" in values or "priority" in values)
    elif word in ("variable", "param", "with-param"):
        wrong = "select" in values and piece.content != []
    if wrong:
        raise NotSheet(piece.place, "attribute")


def read_element(piece, level):
    """Read an element of stylesheets, which may stand where it is."""
    read_attributes(piece)
    read_content(piece, level)


def read_literal(piece, level):
    """Read a literal element."""
    check_level(piece, level)
    for attribute in piece.attributes:
        if attribute.name == SETS:
            put_value(piece, SETS, "names", attribute.text)
        elif not attribute.name.startswith(PREFIX) and attribute.name not in UNSEEN:
            put_value(piece, attribute.name, "template", attribute.text)
    for attribute in piece.attributes:
        if attribute.name.startswith(PREFIX) and attribute.name != SETS and attribute.name not in UNSEEN:
            raise NotSheet(piece.place, "attribute")
    read_body(piece, level)


def check_level(piece, level):
    """Look whether an element stands too far below the root element."""
    if level > MOST_LEVELS:
        raise NotSheet(piece.place, "element")


def read_content(piece, level):
    """Read the content of an element of stylesheets."""
    word = piece.word
    if word in BODIES:
        piece.start = start_of_body(piece, AHEAD_OF_BODY.get(word, ""))
        for part in piece.content[:piece.start]:
            if not part.is_text():
                check_level(part, level + 1)
                read_element(part, level + 1)
        read_body(piece, level)
    elif word == "text":
        for part in piece.content:
            if not part.is_text():
                raise NotSheet(part.place, "element")
    else:
        read_parts_without_body(piece, word, level)


def start_of_body(piece, word):
    """The index behind the elements that stand ahead of a body; white space among them counts as nothing."""
    start = 0
    for at, part in enumerate(piece.content):
        if part.is_word(word):
            start = at + 1
        elif not part.is_blank_text():
            break
    return start


def read_body(piece, level):
    """Read the body of an element."""
    for part in piece.body():
        if part.is_text():
            continue
        if part.word is None:
            read_literal(part, level + 1)
        elif part.word in INSTRUCTIONS:
            check_level(part, level + 1)
            read_element(part, level + 1)
        else:
            raise NotSheet(part.place, "element")


def read_parts_without_body(piece, word, level):
    """Read what stands in an element that has no body."""
    ahead = ""
    for part in piece.content:
        if part.is_blank_text():
            continue
        if part.is_text():
            raise NotSheet(part.place, "text")
        own = part.word
        if own is None or own not in CONTENTS.get(word, ()):
            raise NotSheet(part.place, "element")
        # An otherwise stands last, behind a when.
        if word == "choose" and (ahead == "otherwise" or ahead == "" and own == "otherwise"):
            raise NotSheet(part.place, "element")
        ahead = own
        check_level(part, level + 1)
        read_element(part, level + 1)
    if word == "choose" and ahead == "":
        raise NotSheet(piece.place, "element")
