"""What the paths of a stylesheet can ask for."""

from pathloom.errors import Failed
from pathloom.keys import KeyWorld
from pathloom.stripping import stripped_copy
from pathloom.trees import copied_tree


class NeedsGlobal(Exception):
    """A path needs the value of a global variable that has none yet."""

    def __init__(self, name):
        self.name = name


class SheetWorld(KeyWorld):
    """The world of a transformation: its source, its documents, and its global variables.

    Those variables that are in `global_values` with None are being evaluated.
    `roots` are those of the documents that were asked for, `passed` what
    patterns have found.
    """

    def __init__(self, program, source, params, documents):
        KeyWorld.__init__(self, program.key_rows)
        self.program = program
        self.source = source
        self.documents = documents
        self.roots = {}
        self.passed = {}
        self.global_values = {}
        for name in program.params:
            if name in params:
                self.global_values[name] = ("text", params[name])

    def variable_value(self, name):
        """The value of a global variable."""
        if name not in self.global_values:
            raise NeedsGlobal(name)
        value = self.global_values[name]
        if value is None:
            raise Failed("circle")
        return value

    def document_root(self, name):
        """The root of the document of a name."""
        if name not in self.roots:
            self.roots[name] = self.new_document(name).root
        return self.roots[name]

    def new_document(self, name):
        """A copy of the document of a name, with its number."""
        if name in self.documents:
            tree = stripped_copy(self.documents[name], self.program.strips)
            tree.number = sorted(list(self.documents)).index(name) + 1
        elif name == "":
            tree = copied_tree(self.program.main_tree, {})
            tree.number = len(self.documents) + 1
        else:
            raise Failed("document")
        return tree
