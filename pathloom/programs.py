"""Stylesheets made into what carries them out."""

from pathloom.body_compiling import BodyCompiler, declaration_of
from pathloom.decimals import number_of_text
from pathloom.instructions import Template
from pathloom.outputs import Output
from pathloom.patterns import priority_of
from pathloom.rules import Alternative, Rule, Rules
from pathloom.sheet_checks import counting_globals, set_pieces, used_sets
from pathloom.stripping import Strips

# More attribute elements than that are never carried out.
MOST_IN_SETS = 20001


class Program:
    """A stylesheet: its rules, its named templates, its global variables and params, keys, and settings."""

    def __init__(self, sheet):
        parts = sheet.parts
        self.main_tree = sheet.main_module.tree
        self.strips = Strips(parts)
        self.output = Output(parts)
        self.key_rows = [key_of(piece) for piece, _ in parts if piece.is_word("key")]
        self.named = {}
        self.compiler = BodyCompiler(self.named)
        self.put_sets(set_pieces(parts))
        self.declarations = {}
        self.params = []
        counting = counting_globals(parts)
        for name in counting:
            piece = counting[name][0]
            self.declarations[name] = declaration_of(piece, self.compiler)
            if piece.is_word("param"):
                self.params.append(name)
        self.rules = self.rules_of(parts)

    def put_sets(self, pieces):
        """Give the compiler the attribute elements of each attribute set, with those of the sets that it uses."""
        sets = self.compiler.sets
        waiting = list(pieces)
        while waiting != []:
            name = waiting[-1]
            missing = [other for piece in pieces[name] for other in used_sets(piece) if other not in sets]
            # There are no circles, so that each set has its turn when those that it uses are there.
            if missing != []:
                waiting.extend(missing)
            else:
                waiting.pop()
                if name not in sets:
                    sets[name] = self.instructions_of_set(pieces[name])

    def instructions_of_set(self, pieces):
        """The attribute elements of one attribute set."""
        found = []
        for piece in pieces:
            found.extend(self.compiler.instructions_of_sets(used_sets(piece)))
            found.extend([self.compiler.instruction(part) for part in piece.content if part.is_word("attribute")])
            found = found[:MOST_IN_SETS]
        return found

    def rules_of(self, parts):
        """All rules; the templates with a name are put where call-template finds them."""
        by_modes = {}
        precedences = {}
        for at, (piece, module) in enumerate(parts):
            if piece.is_word("template"):
                template = self.template_of(piece, module)
                rules = by_modes.setdefault(piece.meant.get("mode"), [])
                for tree in piece.meant.get("match", []):
                    number = number_of_text(piece.meant.get("priority", priority_of(tree)))
                    rules.append(Rule(Alternative(tree), template, (module.precedence, number, at)))
                name = piece.meant.get("name")
                if name is not None and (name not in precedences or precedences[name] < module.precedence):
                    precedences[name] = module.precedence
                    self.named[name] = template
        return Rules(by_modes)

    def template_of(self, piece, module):
        """The template that an element is."""
        params = [part for part in piece.content[:piece.start] if part.is_word("param")]
        declarations = [declaration_of(part, self.compiler) for part in params]
        return Template(declarations, self.compiler.compile_body(piece.body()), module.lowest, module.precedence)


def key_of(piece):
    """A key (name, trees of the pattern, tree of the path)."""
    return (piece.meant["name"], piece.meant["match"], piece.meant["use"])


def program_of(sheet):
    """The program of a stylesheet, which is made once."""
    if sheet.program is None:
        sheet.program = Program(sheet)
    return sheet.program
