"""The functions of paths.

Each takes the context and the list of the values of its arguments; those
that may be left out are there already, as the context node alone.
"""

from pathloom.decimals import ceiling_of, floor_of, number_of_text, plus, round_of, whole
from pathloom.path_words import FUNCTIONS
from pathloom.text_functions import exchanged, text_after, text_before, text_from, words_of
from pathloom.trees import in_order, string_value
from pathloom.values import nodes_of, to_number, to_text, to_truth


def call(word, context, values):
    """The value of a call."""
    # A number that is left out is the third one of substring, which means the end of the text.
    if FUNCTIONS[word] == (0, 1) and values == []:
        values = [("nodes", [context.node])]
    function = FUNCTION_OF[word]
    return function(context, values)


def current_node(context, values):
    """current()"""
    return ("nodes", [context.current])


def last_position(context, values):
    """last()"""
    return ("number", whole(context.size))


def own_position(context, values):
    """position()"""
    return ("number", whole(context.position))


def true_value(context, values):
    """true()"""
    return ("truth", True)


def false_value(context, values):
    """false()"""
    return ("truth", False)


def count_nodes(context, values):
    """count(nodes)"""
    return ("number", whole(len(nodes_of(values[0]))))


def name_of_first(context, values):
    """name(nodes?)"""
    nodes = nodes_of(values[0])
    if nodes == [] or nodes[0].name is None:
        return ("text", "")
    return ("text", nodes[0].name)


def local_name_of_first(context, values):
    """local-name(nodes?)"""
    return ("text", name_of_first(context, values)[1].rpartition(":")[2])


def mark_of_first(context, values):
    """generate-id(nodes?)"""
    nodes = nodes_of(values[0])
    if nodes == []:
        return ("text", "")
    return ("text", f"n{nodes[0].tree.number}d{nodes[0].order}")


def texts_of(value):
    """The string values of a list of nodes, or the text of another value alone."""
    if value[0] == "nodes":
        return [string_value(node) for node in value[1]]
    return [to_text(value)]


def nodes_with_id(context, values):
    """id(value)"""
    wanted = {word: True for text in texts_of(values[0]) for word in words_of(text)}
    found = {}
    for node in context.node.tree.nodes:
        if node.kind == "attribute" and node.name == "id" and node.text in wanted and node.text not in found:
            found[node.text] = node.parent
    return ("nodes", in_order(list(found.values())))


def nodes_by_key(context, values):
    """key(name, value)"""
    return ("nodes", context.world.key_nodes_for(context.node.tree, to_text(values[0]), texts_of(values[1])))


def document_roots(context, values):
    """document(value)"""
    return ("nodes", in_order([context.world.document_root(name) for name in texts_of(values[0])]))


def text_value(context, values):
    """string(value?)"""
    return ("text", to_text(values[0]))


def joined_text(context, values):
    """concat(text, text, ..)"""
    return ("text", "".join([to_text(value) for value in values]))


def starts_with(context, values):
    """starts-with(text, text)"""
    return ("truth", to_text(values[0]).startswith(to_text(values[1])))


def contains_text(context, values):
    """contains(text, text)"""
    return ("truth", to_text(values[1]) in to_text(values[0]))


def before_text(context, values):
    """substring-before(text, text)"""
    return ("text", text_before(to_text(values[0]), to_text(values[1])))


def after_text(context, values):
    """substring-after(text, text)"""
    return ("text", text_after(to_text(values[0]), to_text(values[1])))


def part_of_text(context, values):
    """substring(text, number, number?)"""
    length = to_number(values[2]) if len(values) > 2 else None
    return ("text", text_from(to_text(values[0]), to_number(values[1]), length))


def length_of_text(context, values):
    """string-length(text?)"""
    return ("number", whole(len(to_text(values[0]))))


def normal_text(context, values):
    """normalize-space(text?)"""
    return ("text", " ".join(words_of(to_text(values[0]))))


def translated_text(context, values):
    """translate(text, text, text)"""
    return ("text", exchanged(to_text(values[0]), to_text(values[1]), to_text(values[2])))


def truth_value(context, values):
    """boolean(value)"""
    return ("truth", to_truth(values[0]))


def opposite_truth(context, values):
    """not(truth)"""
    return ("truth", not to_truth(values[0]))


def number_value(context, values):
    """number(value?)"""
    return ("number", to_number(values[0]))


def sum_of_nodes(context, values):
    """sum(nodes)"""
    total = 0
    for node in nodes_of(values[0]):
        total = plus(total, number_of_text(string_value(node)))
    return ("number", total)


def floor_value(context, values):
    """floor(number)"""
    return ("number", floor_of(to_number(values[0])))


def ceiling_value(context, values):
    """ceiling(number)"""
    return ("number", ceiling_of(to_number(values[0])))


def round_value(context, values):
    """round(number)"""
    return ("number", round_of(to_number(values[0])))


FUNCTION_OF = {
    "boolean": truth_value, "ceiling": ceiling_value, "concat": joined_text, "contains": contains_text,
    "count": count_nodes, "current": current_node, "document": document_roots, "false": false_value,
    "floor": floor_value, "generate-id": mark_of_first, "id": nodes_with_id, "key": nodes_by_key,
    "last": last_position, "local-name": local_name_of_first, "name": name_of_first,
    "normalize-space": normal_text, "not": opposite_truth, "number": number_value, "position": own_position,
    "round": round_value, "starts-with": starts_with, "string": text_value, "string-length": length_of_text,
    "substring": part_of_text, "substring-after": after_text, "substring-before": before_text,
    "sum": sum_of_nodes, "translate": translated_text, "true": true_value,
}
