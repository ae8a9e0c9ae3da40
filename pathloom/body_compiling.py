"""Bodies of stylesheets made into instructions."""

from pathloom.element_reading import SETS
from pathloom.evaluating import compiled
from pathloom.instructions import (
    ApplyImports, ApplyTemplates, Body, CallTemplate, Choose, Declaration, ForEach, PutCopies, PutElement, PutLeaf,
    PutLike, PutText, PutValue, PutVariable, TellMessage,
)
from pathloom.sheet_checks import used_sets
from pathloom.sorting import Sort
from pathloom.values import to_text

OWN_NODE = ("path", None, (("self", ("kind", "node", None), ()),))


class BodyCompiler:
    """Makes instructions; `templates` are those with a name, `sets` the attribute elements of the attribute sets."""

    def __init__(self, templates):
        self.templates = templates
        self.sets = {}

    def compile_body(self, parts):
        """The body that parts of a module are."""
        declares = [part for part in parts if part.is_word("variable")] != []
        return Body([self.instruction(part) for part in parts], declares)

    def instruction(self, piece):
        """The instruction that a part of a body is."""
        if piece.is_text():
            return PutText(piece.place, piece.text)
        if piece.word is None:
            return self.literal(piece)
        make = MAKERS[piece.word]
        return make(piece, self)

    def literal(self, piece):
        """A literal element."""
        names = [attribute.name for attribute in piece.attributes]
        told = [(name, template_of(piece.meant[name])) for name in names if name in piece.meant and name != SETS]
        sets = self.instructions_of_sets(used_sets(piece))
        return PutElement(piece.place, template_of([("text", piece.name)]), sets, told, self.compile_body(piece.body()))

    def instructions_of_sets(self, names):
        """The attribute elements of some attribute sets."""
        return [instruction for name in names for instruction in self.sets[name]]

    def params_of(self, piece):
        """The params that an element hands on."""
        return [declaration_of(part, self) for part in piece.content if part.is_word("with-param")]


def template_of(parts):
    """The function that gives the text of an attribute value template in a situation."""
    if parts == []:
        return lambda situation: ""
    if len(parts) == 1 and parts[0][0] == "text":
        text = parts[0][1]
        return lambda situation: text
    asks = [text_of_part(sort, told) for sort, told in parts]
    return lambda situation: "".join([ask(situation) for ask in asks])


def text_of_part(sort, told):
    """The function that gives the text of a part of a template."""
    if sort == "text":
        return lambda situation: told
    path = compiled(told)
    return lambda situation: to_text(situation.ask(path))


def path_of(piece, name):
    """The function of the path in an attribute, None if there is none."""
    return compiled(piece.meant[name]) if name in piece.meant else None


def declaration_of(piece, compiler):
    """What a variable, a param or a with-param declares."""
    body = compiler.compile_body(piece.content) if piece.content != [] else None
    return Declaration(piece.meant["name"], path_of(piece, "select"), body)


def sorts_of(piece):
    """The sort elements in an element."""
    found = []
    for part in piece.content:
        if part.is_word("sort"):
            order_of = template_of(part.meant.get("order", [("text", "ascending")]))
            data_sort_of = template_of(part.meant.get("data-type", [("text", "text")]))
            found.append(Sort(compiled(part.meant.get("select", OWN_NODE)), order_of, data_sort_of))
    return found


def make_apply_templates(piece, compiler):
    """apply-templates"""
    mode = piece.meant.get("mode")
    return ApplyTemplates(path_of(piece, "select"), mode, sorts_of(piece), compiler.params_of(piece))


def make_apply_imports(piece, compiler):
    """apply-imports"""
    return ApplyImports()


def make_call_template(piece, compiler):
    """call-template"""
    return CallTemplate(piece.meant["name"], compiler.params_of(piece), compiler.templates)


def make_for_each(piece, compiler):
    """for-each"""
    return ForEach(path_of(piece, "select"), sorts_of(piece), compiler.compile_body(piece.body()))


def make_if(piece, compiler):
    """if"""
    return Choose([(path_of(piece, "test"), compiler.compile_body(piece.body()))])


def make_choose(piece, compiler):
    """choose"""
    ways = [part for part in piece.content if not part.is_text()]
    return Choose([(path_of(part, "test"), compiler.compile_body(part.body())) for part in ways])


def make_value_of(piece, compiler):
    """value-of"""
    return PutValue(piece.place, path_of(piece, "select"))


def make_copy_of(piece, compiler):
    """copy-of"""
    return PutCopies(piece.place, path_of(piece, "select"))


def make_copy(piece, compiler):
    """copy"""
    return PutLike(piece.place, compiler.instructions_of_sets(used_sets(piece)), compiler.compile_body(piece.body()))


def make_element(piece, compiler):
    """element"""
    sets = compiler.instructions_of_sets(used_sets(piece))
    return PutElement(piece.place, template_of(piece.meant["name"]), sets, [], compiler.compile_body(piece.body()))


def make_attribute(piece, compiler):
    """attribute"""
    name_of = template_of(piece.meant["name"])
    return PutLeaf(piece.place, "attribute", name_of, compiler.compile_body(piece.body()))


def make_instruction(piece, compiler):
    """processing-instruction"""
    name_of = template_of(piece.meant["name"])
    return PutLeaf(piece.place, "instruction", name_of, compiler.compile_body(piece.body()))


def make_text(piece, compiler):
    """text"""
    return PutText(piece.place, "".join([part.text for part in piece.content]))


def make_comment(piece, compiler):
    """comment"""
    return PutLeaf(piece.place, "comment", None, compiler.compile_body(piece.body()))


def make_message(piece, compiler):
    """message"""
    return TellMessage(piece.meant.get("terminate") == "yes", compiler.compile_body(piece.body()))


def make_variable(piece, compiler):
    """variable"""
    return PutVariable(declaration_of(piece, compiler))


MAKERS = {
    "apply-templates": make_apply_templates, "apply-imports": make_apply_imports,
    "call-template": make_call_template, "for-each": make_for_each, "if": make_if, "choose": make_choose,
    "value-of": make_value_of, "copy-of": make_copy_of, "copy": make_copy, "element": make_element,
    "attribute": make_attribute, "processing-instruction": make_instruction, "text": make_text,
    "comment": make_comment, "message": make_message, "variable": make_variable,
}
