"""Stylesheets carried out on documents."""

from pathloom.errors import BadValue
from pathloom.machine import Machine
from pathloom.programs import program_of
from pathloom.result_trees import nodes_made
from pathloom.sheet_worlds import SheetWorld
from pathloom.sheets import Sheet
from pathloom.signs import is_name
from pathloom.stripping import stripped_source
from pathloom.trees import Tree, check_tree, place_of


class Result:
    """What a stylesheet makes of a document: a text, messages, and the origins of all nodes."""

    def __init__(self, text, messages, origins):
        self.text = text
        self.messages = messages
        self.origins = origins


def transform(sheet, tree, params=None, documents=None):
    """The result that a stylesheet makes of a document."""
    check_arguments(sheet, tree, params, documents)
    program = program_of(sheet)
    source, originals = stripped_source(tree, program.strips)
    machine = machine_at_end(program, source, params, documents)
    text = program.output.text_of_result(machine.made.root)
    return Result(text, machine.messages, origins_of(machine.made.root, source, originals))


def outcome(sheet, tree, params, documents):
    """The text and the messages of the result of a transformation; its arguments were checked."""
    program = program_of(sheet)
    machine = machine_at_end(program, stripped_source(tree, program.strips)[0], params, documents)
    return (program.output.text_of_result(machine.made.root), machine.messages)


def machine_at_end(program, source, params, documents):
    """A machine that has carried out a program on a source."""
    world = SheetWorld(program, source, dict(params or {}), dict(documents or {}))
    machine = Machine(program, world)
    machine.run()
    return machine


def check_arguments(sheet, tree, params, documents):
    """Raise BadValue for the first argument of a transformation that is not as it must be."""
    if not isinstance(sheet, Sheet):
        raise BadValue("this is no stylesheet")
    check_tree(tree)
    if params is not None:
        if not isinstance(params, dict):
            raise BadValue("the params are a dict")
        for name in params:
            if not isinstance(name, str) or not is_name(name) or not isinstance(params[name], str):
                raise BadValue("the params are a dict from names to strings")
    if documents is not None:
        if not isinstance(documents, dict):
            raise BadValue("the documents are a dict")
        for name in documents:
            if not isinstance(name, str) or not isinstance(documents[name], Tree):
                raise BadValue("the documents are a dict from names to trees")


def origins_of(root, source, originals):
    """The origins of all nodes below the root of a result; `originals` are the nodes of the source as handed in."""
    found = []
    places = {}
    for node, place in nodes_made(root):
        made_by, current = node.origin
        if current not in places:
            places[current] = None
            if current.tree == source:
                places[current] = place_of(originals[current.order])
        found.append((place, made_by, places[current]))
    return found
