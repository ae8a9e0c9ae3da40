"""Modules of stylesheets: what is left of a document without comments, instructions and white space."""

from pathloom.trees import place_of

WHITE_SPACE = " \t\n"
PREFIX = "xsl:"


class Piece:
    """An element, or a text that was joined from some, of a module.

    `word` is the name of an element of stylesheets without its prefix, None
    for all others. `meant` are the attributes that mean something, as they
    were read, and `variables` the names of the variables in them; `content` is
    what is left of the children, and `start` the index of the first part of it
    that belongs to a body. `place` is that of the node in the module, of a
    joined text that of its first node.
    """

    def __init__(self, node, text, place):
        self.name = node.name
        self.word = None
        if node.name is not None and node.name.startswith(PREFIX):
            self.word = node.name.removeprefix(PREFIX)
        self.text = text
        self.attributes = node.attributes
        self.order = node.order
        self.place = place
        self.content = []
        self.start = 0
        self.meant = {}
        self.variables = []

    def is_text(self):
        """Whether this is a text."""
        return self.name is None

    def is_blank_text(self):
        """Whether this is a text of white space alone."""
        return self.name is None and is_white(self.text)

    def is_word(self, word):
        """Whether this is the element of stylesheets with a name."""
        return self.word == word

    def attribute_text(self, name):
        """The text of an attribute, None if there is none."""
        for attribute in self.attributes:
            if attribute.name == name:
                return attribute.text
        return None

    def body(self):
        """The part of the content that is a body."""
        return self.content[self.start:]


def is_white(text):
    """Whether a text consists of white space."""
    return text.strip(WHITE_SPACE) == ""


def outermost_node(tree):
    """The root element of a module."""
    return [node for node in tree.root.children if node.kind == "element"][0]


def outermost_piece(tree, module_name):
    """The piece of the root element of a module, with all that is in it."""
    outermost = outermost_node(tree)
    top = Piece(outermost, "", (module_name, place_of(outermost)))
    waiting = [(outermost, top, False)]
    while waiting:
        node, piece, is_kept = waiting.pop()
        is_kept = keeps_white_space(piece, is_kept)
        for child, text in parts_of_content(node):
            part = Piece(child, text, (module_name, (*piece.place[1], child.part)))
            if child.kind == "element":
                waiting.append((child, part, is_kept))
            if child.kind == "element" or is_kept or piece.is_word("text") or not is_white(text):
                piece.content.append(part)
    return top


def keeps_white_space(piece, is_kept):
    """Whether texts of white space are kept in an element, if they are or are not around it."""
    told = piece.attribute_text("xml:space")
    return told == "preserve" if told is not None else is_kept


def parts_of_content(node):
    """The elements and the joined texts in an element: tuples (node, text), of texts with the first node."""
    parts = []
    is_open = False
    for child in node.children:
        if child.kind == "element":
            parts.append((child, ""))
            is_open = False
        elif child.kind == "text" and is_open:
            first, text = parts.pop()
            parts.append((first, text + child.text))
        elif child.kind == "text":
            parts.append((child, child.text))
            is_open = True
    return parts
