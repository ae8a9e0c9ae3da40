"""What paths read of trees."""

from pathloom.contexts import World, start_context
from pathloom.node_parts import parts_in_order
from pathloom.paths import tree_of
from pathloom.places import node_at
from pathloom.reading_values import Place, Reader
from pathloom.selecting import checked_variables


def read_parts(text, tree, place=(), variables=None):
    """The parts of nodes that the value of a path at the node at a place reads: tuples (place, part), in order."""
    path = tree_of(text)
    node = node_at(tree, place)
    context = start_context(node, World())
    context.variables = checked_variables(variables)
    reader = Reader(context)
    reader.value_of_tree(path, Place(node, 1, 1))
    return parts_in_order(tree, reader.notes.found)
