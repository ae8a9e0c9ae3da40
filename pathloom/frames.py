"""The frames of a transformation at work: each knows how far it has come, and makes one step at a time.

A step that asks for paths changes nothing ahead of this, so that it can begin
anew when the value of a global variable has to be found first.
"""


class BodyFrame:
    """A body: its instructions, and what finishes it, or None."""

    def __init__(self, instructions, situation, ending):
        self.instructions = instructions
        self.situation = situation
        self.ending = ending
        self.at = 0

    def step(self, machine):
        """Carry out the next instruction, or end."""
        if self.at < len(self.instructions):
            machine.check_long()
            self.instructions[self.at].carry_out(machine, self.situation)
            self.at += 1
            machine.carried += 1
        else:
            machine.work.pop()
            self.end_body(machine)

    def end_body(self, machine):
        """End the body."""
        machine.leave()
        if self.ending is not None:
            self.ending.finish(machine)


class SetsFrame(BodyFrame):
    """The attribute elements of attribute sets, which are no body."""

    def __init__(self, instructions, situation):
        BodyFrame.__init__(self, instructions, situation, None)

    def end_body(self, machine):
        """End without a body that ends."""


class ProcessFrame:
    """Nodes that are processed in a mode, with params that are handed on; of a built-in rule it counts as a body."""

    def __init__(self, nodes, mode, given, is_body):
        self.nodes = nodes
        self.mode = mode
        self.given = given
        self.is_body = is_body
        self.at = 0

    def step(self, machine):
        """Process the next node, or end."""
        if self.at < len(self.nodes):
            self.at += 1
            machine.process(self.nodes[self.at - 1], self.at, len(self.nodes), self.mode, self.given)
        else:
            machine.work.pop()
            if self.is_body:
                machine.leave()


class EachFrame:
    """Nodes for each of which a body is carried out."""

    def __init__(self, nodes, body, situation):
        self.nodes = nodes
        self.content = body
        self.situation = situation
        self.at = 0

    def step(self, machine):
        """Begin the body for the next node, or end."""
        if self.at < len(self.nodes):
            self.at += 1
            node = self.nodes[self.at - 1]
            machine.begin_body(self.content, self.situation.at_node(node, self.at, len(self.nodes)), None)
        else:
            machine.work.pop()


class TemplateFrame:
    """A template whose params are set, one behind the other."""

    def __init__(self, template, situation, given):
        self.template = template
        self.situation = situation
        self.given = given
        self.at = 0

    def step(self, machine):
        """Set the next param, or go on with the body."""
        if self.at < len(self.template.params):
            param = self.template.params[self.at]
            if param.name in self.given:
                self.situation.variables[param.name] = self.given[param.name]
            else:
                param.declare(machine, self.situation, self.situation.variables)
            self.at += 1
        else:
            machine.work.pop()
            machine.begin_body(self.template.content, self.situation, None)


class GivenFrame:
    """Params that are evaluated to be handed on; a later one of a name counts."""

    def __init__(self, params, situation, given):
        self.params = params
        self.situation = situation
        self.given = given
        self.at = 0

    def step(self, machine):
        """Evaluate the next one, or end."""
        if self.at < len(self.params):
            self.params[self.at].declare(machine, self.situation, self.given)
            self.at += 1
        else:
            machine.work.pop()


class GlobalFrame:
    """A global variable whose value is found."""

    def __init__(self, declaration, situation):
        self.declaration = declaration
        self.situation = situation
        self.is_begun = False

    def step(self, machine):
        """Find the value, or end."""
        if self.is_begun:
            machine.work.pop()
        else:
            self.declaration.declare(machine, self.situation, machine.world.global_values)
            self.is_begun = True


class ContentFrame:
    """What an element is given behind the attributes of its sets: its own attributes, and what its body makes."""

    def __init__(self, attributes, body, situation, origin):
        self.attributes = attributes
        self.content = body
        self.situation = situation
        self.origin = origin

    def step(self, machine):
        """Put the attributes, and begin the body."""
        told = [(name, text_of(self.situation)) for name, text_of in self.attributes]
        machine.work.pop()
        begin_content(machine, told, self.content, self.situation, self.origin)


def begin_content(machine, told, body, situation, origin):
    """Put attributes into the element that was begun, and begin its body."""
    for name, text in told:
        machine.made.put_attribute(name, text, origin)
    machine.begin_body(body, situation, ElementEnd())


def begin_element(machine, name, sets, attributes, body, situation, origin):
    """Begin an element with the attributes of sets, attributes of its own, and a body."""
    if sets == []:
        told = [(name_told, text_of(situation)) for name_told, text_of in attributes]
        machine.made.open_element(name, origin)
        begin_content(machine, told, body, situation, origin)
    else:
        machine.made.open_element(name, origin)
        machine.work.append(ContentFrame(attributes, body, situation, origin))
        machine.work.append(SetsFrame(sets, situation.for_sets()))


class ElementEnd:
    """The end of the body of an element."""

    def finish(self, machine):
        """End the element."""
        machine.made.close_element()


class ApartEnd:
    """The end of a body that made a tree of its own; `target` is what was being made around it."""

    def __init__(self):
        self.target = None

    def finish(self, machine):
        """Go on with what was being made, and make something of the tree."""
        self.finish_with(machine, machine.made.end_apart(self.target))

    def finish_with(self, machine, root):
        """Make something of a tree with a root; the classes below tell what."""


class BindEnd(ApartEnd):
    """The end of the body of a variable: it has a fragment as its value, in a table."""

    def __init__(self, table, name):
        ApartEnd.__init__(self)
        self.table = table
        self.name = name

    def finish_with(self, machine, root):
        """Set the variable."""
        self.table[self.name] = ("fragment", root)
