"""The functions of paths.

Each takes the list of the values of its arguments; those that may be left out
are there already, as the context node alone. Those that ask for more take the
context behind it: the node, its position, the size, and the context in which
the whole path is evaluated.
"""

from pathloom.decimals import ceiling_of, floor_of, number_of_text, plus, round_of, whole
from pathloom.path_words import FUNCTIONS
from pathloom.text_functions import exchanged, text_after, text_before, text_from, words_of
from pathloom.trees import in_order, string_value
from pathloom.values import nodes_of, texts_of, to_number, to_text, to_truth


def takes_context_node(word, many):
    """Whether a call with a number of arguments means the context node by one that it leaves out."""
    # What is left out may also be the third argument of substring, which means the end of the text.
    return FUNCTIONS[word] == (0, 1) and many == 0


def current_node(values, node, position, size, scene):
    """current()"""
    return ("nodes", [scene.current])


def last_position(values, node, position, size, scene):
    """last()"""
    return ("number", whole(size))


def own_position(values, node, position, size, scene):
    """position()"""
    return ("number", whole(position))


def nodes_with_id(values, node, position, size, scene):
    """id(value)"""
    wanted = {word: True for text in texts_of(values[0]) for word in words_of(text)}
    found = {}
    for part in node.tree.nodes:
        if part.kind == "attribute" and part.name == "id" and part.text in wanted and part.text not in found:
            found[part.text] = part.parent
    return ("nodes", in_order(list(found.values())))


def nodes_by_key(values, node, position, size, scene):
    """key(name, value)"""
    return ("nodes", scene.world.key_nodes_for(node.tree, to_text(values[0]), texts_of(values[1])))


def document_roots(values, node, position, size, scene):
    """document(value)"""
    return ("nodes", in_order([scene.world.document_root(name) for name in texts_of(values[0])]))


def true_value(values):
    """true()"""
    return ("truth", True)


def false_value(values):
    """false()"""
    return ("truth", False)


def count_nodes(values):
    """count(nodes)"""
    return ("number", whole(len(nodes_of(values[0]))))


def name_of_first(values):
    """name(nodes?)"""
    nodes = nodes_of(values[0])
    if nodes == [] or nodes[0].name is None:
        return ("text", "")
    return ("text", nodes[0].name)


def local_name_of_first(values):
    """local-name(nodes?)"""
    return ("text", name_of_first(values)[1].rpartition(":")[2])


def mark_of_first(values):
    """generate-id(nodes?)"""
    nodes = nodes_of(values[0])
    if nodes == []:
        return ("text", "")
    return ("text", f"n{nodes[0].tree.number}d{nodes[0].order}")


def text_value(values):
    """string(value?)"""
    return ("text", to_text(values[0]))


def joined_text(values):
    """concat(text, text, ..)"""
    return ("text", "".join([to_text(value) for value in values]))


def starts_with(values):
    """starts-with(text, text)"""
    return ("truth", to_text(values[0]).startswith(to_text(values[1])))


def contains_text(values):
    """contains(text, text)"""
    return ("truth", to_text(values[1]) in to_text(values[0]))


def before_text(values):
    """substring-before(text, text)"""
    return ("text", text_before(to_text(values[0]), to_text(values[1])))


def after_text(values):
    """substring-after(text, text)"""
    return ("text", text_after(to_text(values[0]), to_text(values[1])))


def part_of_text(values):
    """substring(text, number, number?)"""
    length = to_number(values[2]) if len(values) > 2 else None
    return ("text", text_from(to_text(values[0]), to_number(values[1]), length))


def length_of_text(values):
    """string-length(text?)"""
    return ("number", whole(len(to_text(values[0]))))


def normal_text(values):
    """normalize-space(text?)"""
    return ("text", " ".join(words_of(to_text(values[0]))))


def translated_text(values):
    """translate(text, text, text)"""
    return ("text", exchanged(to_text(values[0]), to_text(values[1]), to_text(values[2])))


def truth_value(values):
    """boolean(value)"""
    return ("truth", to_truth(values[0]))


def opposite_truth(values):
    """not(truth)"""
    return ("truth", not to_truth(values[0]))


def number_value(values):
    """number(value?)"""
    return ("number", to_number(values[0]))


def sum_of_nodes(values):
    """sum(nodes)"""
    total = 0
    for node in nodes_of(values[0]):
        total = plus(total, number_of_text(string_value(node)))
    return ("number", total)


def floor_value(values):
    """floor(number)"""
    return ("number", floor_of(to_number(values[0])))


def ceiling_value(values):
    """ceiling(number)"""
    return ("number", ceiling_of(to_number(values[0])))


def round_value(values):
    """round(number)"""
    return ("number", round_of(to_number(values[0])))


FUNCTION_IN_CONTEXT = {
    "current": current_node, "document": document_roots, "id": nodes_with_id, "key": nodes_by_key,
    "last": last_position, "position": own_position,
}
FUNCTION_OF = {
    "boolean": truth_value, "ceiling": ceiling_value, "concat": joined_text, "contains": contains_text,
    "count": count_nodes, "false": false_value, "floor": floor_value, "generate-id": mark_of_first,
    "local-name": local_name_of_first, "name": name_of_first, "normalize-space": normal_text, "not": opposite_truth,
    "number": number_value, "round": round_value, "starts-with": starts_with, "string": text_value,
    "string-length": length_of_text, "substring": part_of_text, "substring-after": after_text,
    "substring-before": before_text, "sum": sum_of_nodes, "translate": translated_text, "true": true_value,
}
