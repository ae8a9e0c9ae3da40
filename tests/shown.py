"""Trees shown as rows, and documents that the tests share."""

from pathloom.documents import read
from pathloom.errors import NotDocument
from pathloom.places import kind_at, name_at, places, string_at

EVERYTHING = (
    "<?xml version='1.0'?>\n<!-- c - c --><?p  q ? ?>\t<a:b c='1' d = \"&lt;'&#9;\t\"\n"
    "\te_-.1:f='%\">'>x]]&gt;%<![CDATA[<&]]]>&amp;&#x2F;<b/>t<b  ></b\n>&quot;"
    "<?q?><!----><c><c2 >&#0000126;</c2></c>&apos;</a:b><!--x--> <?z y?>\n"
)

# A thing of each built-in kind that is no text, tuple, or whole number.
STRANGE = [
    None, True, False, 1.0, 1j, b"<a/>", bytearray(b"<a/>"), memoryview(b"<a/>"), [], ["<a/>"], {}, {"a": 1},
    set(), frozenset([1]), range(3), slice(1), object(), int, str, tuple, len, print, NotImplemented, ...,
    iter([1]), (one for one in "ab"), lambda: 1, ValueError("x"), ValueError, NotDocument, NotDocument(3),
    float("nan"), property(), super(object, object()), zip(), map(str, []), read, "".join,
]


def rows(text):
    """All nodes of a document as tuples (place, kind, name, string value)."""
    tree = read(text)
    return [(place, kind_at(tree, place), name_at(tree, place), string_at(tree, place)) for place in places(tree)]


def inner(content):
    """What stands in an element with a content: tuples (kind, name, string value)."""
    return [row[1:] for row in rows("<r>" + content + "</r>")[2:]]


def fault_at(text):
    """The field of the error that a text raises, None if it is a document."""
    try:
        read(text)
    except NotDocument as error:
        return error.at
    return None
