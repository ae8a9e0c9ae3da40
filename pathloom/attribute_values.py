"""The values of attributes in stylesheets."""

from pathloom.decimals import is_decimal_text
from pathloom.errors import NotPath, NotPattern
from pathloom.keys import tree_without_variables
from pathloom.paths import tree_of
from pathloom.patterns import pattern_trees
from pathloom.signs import is_name
from pathloom.text_functions import words_of


class BadAttribute(Exception):
    """A value of an attribute is not what it must be, by a fault of the words told."""

    def __init__(self, fault):
        self.fault = fault


def read_value(sort, text):
    """What the text of an attribute of a sort means; BadAttribute if it is not of this sort."""
    if sort in ("path", "closed path", "pattern", "template"):
        try:
            return read_path_value(sort, text)
        except NotPath:
            raise BadAttribute("path") from None
        except NotPattern:
            raise BadAttribute("path") from None
    if sort in ("name", "names", "names or all"):
        return read_names(sort, text)
    is_told = True
    if sort == "decimal":
        is_told = is_decimal_text(text)
    elif sort == "yes or no":
        is_told = text in ("yes", "no")
    elif sort == "method":
        is_told = text in ("xml", "text")
    if not is_told:
        raise BadAttribute("attribute")
    return text


def read_path_value(sort, text):
    """The tree of a path, the trees of a pattern, or the parts of a template."""
    if sort == "path":
        return tree_of(text)
    if sort == "closed path":
        return tree_without_variables(text)
    if sort == "pattern":
        return pattern_trees(text)
    return template_parts(text)


def read_names(sort, text):
    """A name, or the list of names with white space between them."""
    if sort == "name":
        if not is_name(text):
            raise BadAttribute("name")
        return text
    names = words_of(text)
    for name in names:
        if not is_name(name) and not (sort == "names or all" and name == "*"):
            raise BadAttribute("name")
    return names


def template_parts(text):
    """The parts of an attribute value template: tuples ("text", text) and ("path", tree)."""
    if "{" not in text and "}" not in text:
        return [("text", text)] if text != "" else []
    parts = []
    at = 0
    while at < len(text):
        sign = text[at]
        if sign not in ("{", "}"):
            parts.append(("text", sign))
            at += 1
        elif text[at + 1:at + 2] == sign:
            parts.append(("text", sign))
            at += 2
        elif sign == "}":
            raise BadAttribute("path")
        else:
            end = end_of_braces(text, at + 1)
            parts.append(("path", tree_of(text[at + 1:end])))
            at = end + 1
    return joined_parts(parts)


def end_of_braces(text, at):
    """The index of the brace that ends an expression; the braces in its literals do not."""
    quote = ""
    while at < len(text) and (quote != "" or text[at] != "}"):
        if quote == "" and text[at] in ("'", '"'):
            quote = text[at]
        elif text[at] == quote:
            quote = ""
        at += 1
    if at == len(text):
        raise BadAttribute("path")
    return at


def joined_parts(parts):
    """Parts of a template with one text where some meet."""
    found = []
    for part in parts:
        if part[0] == "text" and found != [] and found[-1][0] == "text":
            found.append(("text", found.pop()[1] + part[1]))
        else:
            found.append(part)
    return found
