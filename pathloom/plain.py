"""Plain stylesheets on every document."""

from pathloom.documents import read
from pathloom.plain_pairs import Comparison
from pathloom.plain_sources import SourceSearch
from pathloom.plainness import looked_at, plain_top


def unplain_at(main):
    """The least place of a node by which a stylesheet is not plain, None if it is plain."""
    return looked_at(main).least_place()


def parting(one, other):
    """The text of a document of which two plain stylesheets make different results, None if there is none."""
    top = plain_top(one)
    return Comparison(top, plain_top(other)).parting_text()


def source_for(main, result):
    """The text of a document of which a plain stylesheet makes a result, None if there is none."""
    top = plain_top(main)
    return SourceSearch(top, read(result)).source_text()
