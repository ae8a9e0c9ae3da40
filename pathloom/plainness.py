"""Whether a stylesheet is plain, and the node by which it is not."""

from pathloom.errors import NotPlain
from pathloom.modules import WHITE_SPACE
from pathloom.plain_bodies import is_literal, left_of, plain_select, plain_test, subsets_of
from pathloom.sheets import Sheet
from pathloom.signs import is_name

MOST_TESTED = 4


def looked_at(main):
    """The look at the stylesheet that a text is."""
    check = PlainCheck(Sheet(main).main_module.top)
    check.look_at_root()
    return check


def plain_top(main):
    """The root element of a plain stylesheet; NotPlain for another one."""
    check = looked_at(main)
    place = check.least_place()
    if place is not None:
        raise NotPlain(place)
    return check.top


def match_of(template):
    """What a template matches, without white space around it; the empty text if it has no match."""
    text = template.attribute_text("match")
    return text.strip(WHITE_SPACE) if text is not None else ""


def has_other_attributes(piece, names):
    """Whether an element has an attribute with none of some names."""
    return [attribute for attribute in piece.attributes if attribute.name not in names] != []


class PlainCheck:
    """A look at a stylesheet: `found` are the nodes by which it is not plain, in any order.

    `tested` are the names that are tested, as many as may be; what stands
    behind a test with a further one need not be looked at with it in mind, as
    this test comes ahead.
    """

    def __init__(self, top):
        self.top = top
        self.found = []
        self.tested = []
        templates = [piece for piece in top.content if piece.is_word("template")]
        self.template_keys = [(match_of(piece), piece.attribute_text("mode")) for piece in templates]

    def least_place(self):
        """The least place of a node by which the stylesheet is not plain, None if there is none."""
        if self.found == []:
            return None
        return min([(piece.order, piece.place[1]) for piece in self.found])[1]

    def look_at_root(self):
        """Look at the whole stylesheet."""
        top = self.top
        if not top.is_word("stylesheet") and not top.is_word("transform"):
            self.found.append(top)
            return
        if top.attribute_text("xml:space") is not None:
            self.found.append(top)
        if ("*", None) not in self.template_keys and ("/", None) not in self.template_keys:
            self.found.append(top)
        seen = {}
        for piece in top.content:
            if piece.is_word("template"):
                self.look_at_template(piece, seen)
            else:
                self.found.append(piece)
        for piece in top.content:
            if piece.is_word("template"):
                self.look_at_order(piece)

    def look_at_template(self, piece, seen):
        """Look at a template, if those with some keys were seen."""
        match = match_of(piece)
        mode = piece.attribute_text("mode")
        is_told = is_name(match) or match == "*" or match == "/" and mode is None
        if has_other_attributes(piece, ("match", "mode")) or not is_told or (match, mode) in seen:
            self.found.append(piece)
        seen[(match, mode)] = True
        self.found.extend(piece.content[:piece.start])
        self.look_at_body(piece.body())

    def look_at_body(self, parts):
        """Look at each part of a body by itself."""
        for part in parts:
            if part.is_text():
                continue
            if not self.is_told(part):
                self.found.append(part)
            elif is_literal(part) or part.is_word("if"):
                self.look_at_body(part.content)
            elif part.is_word("choose"):
                self.look_at_choose(part)

    def look_at_choose(self, choose):
        """Look at the parts of a choose."""
        for part in choose.content:
            is_told = self.is_told_test(part) if part.is_word("when") else part.attributes == []
            if not part.is_text() and not is_told:
                self.found.append(part)
            self.look_at_body(part.content)

    def is_told(self, piece):
        """Whether an element in a body is as it is told, but for what is in it."""
        if is_literal(piece):
            return is_told_literal(piece)
        if piece.is_word("text") or piece.is_word("choose"):
            return piece.attributes == []
        if piece.is_word("if"):
            return self.is_told_test(piece)
        if not piece.is_word("apply-templates") or has_other_attributes(piece, ("select", "mode")):
            return False
        is_answered = ("*", piece.attribute_text("mode")) in self.template_keys
        return is_answered and piece.content == [] and plain_select(piece) is not None

    def is_told_test(self, piece):
        """Whether an if or a when tests a name that may be tested, and has nothing but its test."""
        if has_other_attributes(piece, ("test",)):
            return False
        test = plain_test(piece)
        if test is None:
            return False
        if test[0] in self.tested:
            return True
        if len(self.tested) == MOST_TESTED:
            return False
        self.tested.append(test[0])
        return True

    def look_at_order(self, template):
        """Look at what is left of a template's body, whatever tested names are there."""
        for names in subsets_of(self.tested):
            left = left_of(template.body(), names)
            if match_of(template) != "/":
                self.found.extend([part for part in left if not is_literal(part)])
            self.look_at_row(left, names)

    def look_at_row(self, parts, names):
        """Look at what is left beside one another: an apply-templates stands behind all else."""
        is_behind = False
        for part in parts:
            if is_behind:
                self.found.append(part)
            if part.is_word("apply-templates"):
                is_behind = True
            elif is_literal(part):
                self.look_at_row(left_of(part.content, names), names)


def is_told_literal(piece):
    """Whether a literal element has no attributes but plain ones."""
    for attribute in piece.attributes:
        if attribute.name in ("xml:space", "xmlns:xsl") or attribute.name.startswith("xsl:"):
            return False
        if "{" in attribute.text or "}" in attribute.text:
            return False
    return True
