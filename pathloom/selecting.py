"""Paths evaluated on trees."""

from pathloom.contexts import World, start_context
from pathloom.decimals import text_of_number, whole
from pathloom.errors import BadValue
from pathloom.evaluating import value_of
from pathloom.paths import tree_of
from pathloom.places import node_at
from pathloom.signs import is_name
from pathloom.trees import places_of


def select(text, tree, place=(), variables=None):
    """The value of a path at the node at a place, as a tuple of its sort and what it is."""
    path = tree_of(text)
    context = start_context(node_at(tree, place), World())
    context.variables = checked_variables(variables)
    value = value_of(path, context)
    if value[0] == "nodes":
        return ("nodes", places_of(value[1]))
    if value[0] == "number":
        return ("number", text_of_number(value[1]))
    return value


def checked_variables(variables):
    """The values of variables that are given by texts, whole numbers and truths."""
    if variables is None:
        return {}
    if not isinstance(variables, dict):
        raise BadValue("the variables are a dict")
    found = {}
    for name in variables:
        if not isinstance(name, str) or not is_name(name):
            raise BadValue("variables have names")
        found[name] = value_of_variable(variables[name])
    return found


def value_of_variable(given):
    """The value that a variable is given."""
    if isinstance(given, bool):
        return ("truth", given)
    if isinstance(given, int):
        return ("number", whole(given))
    if isinstance(given, str):
        return ("text", given)
    raise BadValue("the values of variables are texts, whole numbers and truths")
