"""Stylesheets in short: `sheet` wraps what stands at the top level, `fault` tells the error of a stylesheet."""

from pathloom.errors import NotSheet
from pathloom.sheets import Sheet


def sheet(inner, head=""):
    return f'<xsl:stylesheet version="1.0"{head}>{inner}</xsl:stylesheet>'


def template(body, attributes='name="t"'):
    return f"<xsl:template {attributes}>{body}</xsl:template>"


def fault(main, others=None):
    """The place and the word of the error that a stylesheet raises; of the main module the place alone."""
    try:
        Sheet(main, others)
    except NotSheet as error:
        module, place = error.place
        return (place if module == "" else error.place, error.fault)
    return None


def top_fault(inner, others=None):
    return fault(sheet(inner), others)


def body_fault(body):
    """The error of a body, with the place in the body."""
    found = top_fault(template(body))
    if found is None:
        return None
    place, word = found
    assert place[:2] == (0, 0), found
    return (place[2:], word)
