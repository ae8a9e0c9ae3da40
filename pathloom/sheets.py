"""Stylesheets."""

from pathloom.decimals import number_of_text, text_of_number
from pathloom.errors import BadValue
from pathloom.patterns import alternative_text, priority_of
from pathloom.sheet_checks import check_whole, counting_globals, set_pieces
from pathloom.sheet_reading import SheetReader


class Sheet:
    """A stylesheet, read from its main module and the others that this needs.

    `parts` are all parts at the top level, tuples (piece, module) in the
    order of reading; `main_module` is the main module. `program` is what
    carries the stylesheet out, made when it is first needed.
    """

    def __init__(self, main, others=None):
        if not isinstance(main, str):
            raise BadValue("main")
        reader = SheetReader(checked_others(others))
        self.main_module = reader.read_main(main)
        self.parts = reader.parts
        self.program = None
        check_whole(self.parts)

    def rule_rows(self):
        """The rules: tuples (pattern, mode, priority, precedence, place), by precedence, then as they were read."""
        ranked = [(module.precedence, at) for at, (_, module) in enumerate(self.parts)]
        rows = []
        for precedence, at in sorted(ranked):
            piece = self.parts[at][0]
            if piece.is_word("template"):
                for tree in piece.meant.get("match", []):
                    row = (alternative_text(tree), piece.meant.get("mode"), rule_priority(piece, tree))
                    rows.append((*row, precedence, piece.place))
        return rows

    def template_names(self):
        """The names of templates, in ascending order."""
        templates = [piece for piece, _ in self.parts if piece.is_word("template")]
        return sorted(set([piece.meant["name"] for piece in templates if "name" in piece.meant]))

    def global_rows(self):
        """The global variables and params that count: tuples (name, word, precedence, place), by names."""
        counting = counting_globals(self.parts)
        rows = []
        for name in sorted(list(counting)):
            piece, module = counting[name]
            word = "variable" if piece.is_word("variable") else "param"
            rows.append((name, word, module.precedence, piece.place))
        return rows

    def set_rows(self):
        """The attribute sets: tuples (name, names of their attributes as they are written), by names."""
        sets = set_pieces(self.parts)
        return [(name, names_written(sets[name])) for name in sorted(list(sets))]


def checked_others(others):
    """A copy of the dict of the other modules; BadValue for what is none."""
    if others is None:
        return {}
    if not isinstance(others, dict):
        raise BadValue("others")
    for name in others:
        if not isinstance(name, str) or not isinstance(others[name], str):
            raise BadValue("others")
    return dict(others)


def rule_priority(piece, tree):
    """The priority of the rule that a template makes of an alternative, as a text."""
    if "priority" in piece.meant:
        return text_of_number(number_of_text(piece.meant["priority"]))
    return priority_of(tree)


def names_written(pieces):
    """The names of the attribute elements of an attribute set, as they are written."""
    parts = [part for piece in pieces for part in piece.content if part.is_word("attribute")]
    return [part.attribute_text("name") for part in parts]
