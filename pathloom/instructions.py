"""What bodies of stylesheets consist of, and how it is carried out.

Each instruction asks for all its paths ahead of changing anything, as a path
may need the value of a global variable that has to be found first.
"""

from pathloom.errors import Failed
from pathloom.frames import ApartEnd, BindEnd, EachFrame, GivenFrame, begin_element
from pathloom.signs import is_name
from pathloom.sorting import sorted_nodes
from pathloom.values import nodes_of, to_text, to_truth


class Body:
    """A row of instructions; `declares` tells whether there are variables among them."""

    def __init__(self, instructions, declares):
        self.instructions = instructions
        self.declares = declares


class Template:
    """A template: its params and its body, and the precedences of what its module imports, from `low` on."""

    def __init__(self, params, body, low, precedence):
        self.params = params
        self.content = body
        self.low = low
        self.precedence = precedence


class Declaration:
    """A variable or param: a path, a body that makes a fragment, or neither for the empty text."""

    def __init__(self, name, path, body):
        self.name = name
        self.path = path
        self.content = body

    def declare(self, machine, situation, table):
        """Set it in a table, or begin the body that does."""
        if self.path is not None:
            table[self.name] = situation.ask(self.path)
        elif self.content is None:
            table[self.name] = ("text", "")
        else:
            machine.begin_apart(self.content, situation, BindEnd(table, self.name))


class PutVariable:
    """A variable in a body."""

    def __init__(self, declaration):
        self.declaration = declaration

    def carry_out(self, machine, situation):
        """Set it behind all else that is visible."""
        self.declaration.declare(machine, situation, situation.variables)


class PutText:
    """A text."""

    def __init__(self, place, text):
        self.place = place
        self.text = text

    def carry_out(self, machine, situation):
        """Put it."""
        machine.made.put_text(self.text, (self.place, situation.node))


class PutValue:
    """value-of"""

    def __init__(self, place, path):
        self.place = place
        self.path = path

    def carry_out(self, machine, situation):
        """Put the text of the value."""
        machine.made.put_text(to_text(situation.ask(self.path)), (self.place, situation.node))


class PutCopies:
    """copy-of"""

    def __init__(self, place, path):
        self.place = place
        self.path = path

    def carry_out(self, machine, situation):
        """Put copies of nodes or of a fragment, or the text of another value."""
        value = situation.ask(self.path)
        origin = (self.place, situation.node)
        if value[0] == "nodes":
            for node in value[1]:
                machine.made.put_copy(node, origin)
        elif value[0] == "fragment":
            machine.made.put_copy(value[1], origin)
        else:
            machine.made.put_text(to_text(value), origin)


class PutElement:
    """A literal element, or element: a name, attribute elements of sets, attributes of its own, and a body."""

    def __init__(self, place, name_of, sets, attributes, body):
        self.place = place
        self.name_of = name_of
        self.sets = sets
        self.attributes = attributes
        self.content = body

    def carry_out(self, machine, situation):
        """Begin the element."""
        name_of = self.name_of
        name = name_of(situation)
        if not is_name(name):
            raise Failed("name")
        origin = (self.place, situation.node)
        begin_element(machine, name, self.sets, self.attributes, self.content, situation, origin)


class PutLike:
    """copy"""

    def __init__(self, place, sets, body):
        self.place = place
        self.sets = sets
        self.content = body

    def carry_out(self, machine, situation):
        """Put a node like the current one."""
        node = situation.node
        origin = (self.place, node)
        if node.kind == "element":
            begin_element(machine, node.name, self.sets, [], self.content, situation, origin)
        elif node.kind == "root":
            machine.begin_body(self.content, situation, None)
        else:
            machine.made.put_alike(node, origin)


class PutLeaf:
    """attribute, processing-instruction and comment, by the kind of the node; a comment has no name."""

    def __init__(self, place, kind, name_of, body):
        self.place = place
        self.kind = kind
        self.name_of = name_of
        self.content = body

    def carry_out(self, machine, situation):
        """Begin the body, which makes the text."""
        name = None
        if self.kind != "comment":
            name_of = self.name_of
            name = name_of(situation)
            if not may_be_named(self.kind, name):
                raise Failed("name")
        machine.begin_apart(self.content, situation, LeafEnd(self.kind, name, (self.place, situation.node)))


def may_be_named(kind, name):
    """Whether an attribute or an instruction that is made may have a name."""
    if kind == "attribute":
        return is_name(name) and name != "xmlns"
    return is_name(name) and ":" not in name and name.lower() != "xml"


class TellMessage:
    """message"""

    def __init__(self, is_last, body):
        self.is_last = is_last
        self.content = body

    def carry_out(self, machine, situation):
        """Begin the body."""
        machine.begin_apart(self.content, situation, MessageEnd(self.is_last))


class Choose:
    """if and choose: ways, tuples (path of a test, or None, and body), of which the first one that is open is taken."""

    def __init__(self, ways):
        self.ways = ways

    def carry_out(self, machine, situation):
        """Begin the body of the first way whose test is true."""
        for test, body in self.ways:
            if test is None or to_truth(situation.ask(test)):
                machine.begin_body(body, situation, None)
                return


class ForEach:
    """for-each"""

    def __init__(self, path, sorts, body):
        self.path = path
        self.sorts = sorts
        self.content = body

    def carry_out(self, machine, situation):
        """Begin with the first node."""
        nodes = sorted_nodes(self.sorts, nodes_of(situation.ask(self.path)), situation)
        machine.work.append(EachFrame(nodes, self.content, situation))


class ApplyTemplates:
    """apply-templates; without a path the children of the current node are processed."""

    def __init__(self, path, mode, sorts, params):
        self.path = path
        self.mode = mode
        self.sorts = sorts
        self.params = params

    def carry_out(self, machine, situation):
        """Begin with the params that are handed on, then with the first node."""
        nodes = situation.node.children
        if self.path is not None:
            nodes = nodes_of(situation.ask(self.path))
        nodes = sorted_nodes(self.sorts, nodes, situation)
        given = {}
        machine.begin_list(nodes, self.mode, given, False)
        if self.params != []:
            machine.work.append(GivenFrame(self.params, situation, given))


class ApplyImports:
    """apply-imports"""

    def carry_out(self, machine, situation):
        """Begin the template of the rule that is chosen among those that are imported."""
        rule = situation.rule
        if rule is None:
            raise Failed("rule")
        node = situation.node
        template = machine.program.rules.template_for(node, situation.mode, rule, machine.world)
        if template is None:
            machine.follow_built_in(node, situation.mode)
        else:
            inner = situation.with_variables({})
            inner.rule = template
            machine.begin_template(template, inner, {})


class CallTemplate:
    """call-template; `templates` are those with a name, by their names."""

    def __init__(self, name, params, templates):
        self.name = name
        self.params = params
        self.templates = templates

    def carry_out(self, machine, situation):
        """Begin with the params that are handed on, then with the template."""
        given = {}
        machine.work.append(CallFrame(self.templates[self.name], situation.with_variables({}), given))
        if self.params != []:
            machine.work.append(GivenFrame(self.params, situation, given))


class CallFrame:
    """A template that is called when the params that are handed on are there."""

    def __init__(self, template, situation, given):
        self.template = template
        self.situation = situation
        self.given = given

    def step(self, machine):
        """Begin the template."""
        machine.work.pop()
        machine.begin_template(self.template, self.situation, self.given)


class LeafEnd(ApartEnd):
    """The end of the body of an attribute, a comment or an instruction."""

    def __init__(self, kind, name, origin):
        ApartEnd.__init__(self)
        self.kind = kind
        self.name = name
        self.origin = origin

    def finish_with(self, machine, root):
        """Put the node, with the text of what was made."""
        machine.made.put_leaf(self.kind, self.name, root.string(), self.origin)


class MessageEnd(ApartEnd):
    """The end of the body of a message."""

    def __init__(self, is_last):
        ApartEnd.__init__(self)
        self.is_last = is_last

    def finish_with(self, machine, root):
        """Add the text of what was made to the messages."""
        machine.messages.append(root.string())
        if self.is_last:
            raise Failed("stop")
