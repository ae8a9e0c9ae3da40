"""Modules of stylesheets, read with all that they import and include."""

from pathloom.documents import read
from pathloom.element_reading import read_element, read_literal
from pathloom.errors import NotDocument, NotSheet
from pathloom.modules import PREFIX, Piece, outermost_node, outermost_piece
from pathloom.patterns import pattern_trees
from pathloom.sheet_words import TOP_WORDS


class Module:
    """A module that is being read, or was: `at` is the index of the child of the root element that is next.

    `imports` and `includes` are the modules that it names, in order; of those
    that are included the precedence is that of the module they stand in.
    `lowest` is the lowest precedence of a module that is imported from here
    on, directly or by others; without any it is the module's own.
    """

    def __init__(self, name, tree, top):
        self.name = name
        self.tree = tree
        self.top = top
        self.at = 0
        self.is_behind_imports = False
        self.imports = []
        self.includes = []
        self.precedence = 0
        self.lowest = 0


class SheetReader:
    """One reading of a main module: `parts` are the parts at the top level, in the order of reading.

    They are tuples (piece, module).
    """

    def __init__(self, others):
        self.others = others
        self.reading = []
        self.parts = []

    def read_main(self, text):
        """Read the main module and all others that it needs; return it."""
        main = self.open_module("", text)
        # A list of the modules at work, not recursion: they may name one another in long rows.
        self.reading = [main]
        while self.reading != []:
            module = self.reading[-1]
            if module.at == len(module.top.content):
                self.reading.pop()
            else:
                module.at += 1
                self.read_top(module, module.top.content[module.at - 1])
        number_modules(main)
        return main

    def open_module(self, name, text):
        """Begin a module; one that is simplified is read as a whole."""
        try:
            tree = read(text)
        except NotDocument:
            raise NotSheet((name, ()), "document") from None
        top = outermost_piece(tree, name)
        if top.name in (PREFIX + "stylesheet", PREFIX + "transform"):
            if top.attribute_text("version") != "1.0":
                raise NotSheet(top.place, "version")
            return Module(name, tree, top)
        if top.name.startswith(PREFIX) or top.attribute_text("xsl:version") != "1.0":
            raise NotSheet(top.place, "version")
        module = Module(name, tree, top)
        self.parts.append((simplified_template(tree, top, name), module))
        # Nothing of it is a part at the top level.
        module.at = len(top.content)
        return module

    def read_top(self, module, piece):
        """Read what stands at the top level of a module."""
        if piece.is_text():
            if not piece.is_blank_text():
                raise NotSheet(piece.place, "text")
            return
        word = piece.word
        if word is None and ":" in piece.name:
            return
        if word is None or word not in TOP_WORDS or word == "import" and module.is_behind_imports:
            raise NotSheet(piece.place, "element")
        if word != "import":
            module.is_behind_imports = True
        names_module = word in ("import", "include")
        if names_module:
            self.check_href(piece)
        read_element(piece, 1)
        self.parts.append((piece, module))
        if names_module:
            self.follow(module, piece, word)

    def check_href(self, piece):
        """Look whether an href names a module that can be read here."""
        name = piece.attribute_text("href")
        if name in [module.name for module in self.reading]:
            raise NotSheet(piece.place, "cycle")
        if name is not None and name not in self.others:
            raise NotSheet(piece.place, "href")

    def follow(self, module, piece, word):
        """Begin the module that an import or include names; it is read next."""
        name = piece.meant["href"]
        other = self.open_module(name, self.others[name])
        if word == "import":
            module.imports.append(other)
        else:
            module.includes.append(other)
        self.reading.append(other)


def simplified_template(tree, top, name):
    """The template that a simplified module stands for, of which the root element is the body."""
    template = Piece(outermost_node(tree), "", top.place)
    template.name = PREFIX + "template"
    template.word = "template"
    template.attributes = []
    template.meant = {"match": pattern_trees("/")}
    template.content = [top]
    read_literal(top, 0)
    return template


def number_modules(main):
    """Set the precedence of all modules."""
    order = []
    waiting = [main]
    while waiting:
        module = waiting.pop()
        order.append(module)
        for member in members_of(module):
            waiting.extend(member.imports)
    # The last imports were taken first, so that this is the post-order turned around.
    for precedence, module in enumerate(order[::-1]):
        lowest = precedence
        for member in members_of(module):
            lowest = min([lowest] + [other.lowest for other in member.imports])
        for member in members_of(module):
            member.precedence = precedence
            member.lowest = lowest


def members_of(module):
    """A module and all that it includes, directly or by others, in order."""
    found = []
    waiting = [module]
    while waiting:
        member = waiting.pop()
        found.append(member)
        waiting.extend(member.includes[::-1])
    return found
