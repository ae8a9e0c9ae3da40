"""Transformations in short: `made` gives the text of a result without its declaration, `failed` the word of a failure."""

from pathloom.documents import read
from pathloom.errors import Failed
from pathloom.running import transform
from pathloom.sheets import Sheet
from tests.sheet_shown import sheet

HEAD = '<?xml version="1.0"?>\n'


def run(inner, document="<r/>", others=None, params=None, documents=None):
    """The result of the stylesheet with some parts at the top level, given as texts."""
    trees = {name: read(text) for name, text in documents.items()} if documents is not None else None
    return transform(Sheet(sheet(inner), others), read(document), params, trees)


def made(inner, document="<r/>", **told):
    text = run(inner, document, **told).text
    return text[len(HEAD):] if text.startswith(HEAD) else text


def at_root(body, document="<r/>", more="", **told):
    """What a body makes in a template for `/`."""
    return made(f'<xsl:template match="/">{body}</xsl:template>{more}', document, **told)


def failed(inner, document="<r/>", **told):
    try:
        run(inner, document, **told)
    except Failed as error:
        return error.fault
    return None


def failed_at_root(body, document="<r/>", more="", **told):
    return failed(f'<xsl:template match="/">{body}</xsl:template>{more}', document, **told)


def value(path):
    return f'<xsl:value-of select="{path}"/>'


def rule(match, body, more=""):
    return f'<xsl:template match="{match}"{more}>{body}</xsl:template>'


def apply(select=None, more="", inner=""):
    told = f' select="{select}"' if select else ""
    return f"<xsl:apply-templates{told}{more}>{inner}</xsl:apply-templates>"
