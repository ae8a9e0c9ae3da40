"""Nodes in the order that sort elements tell."""

from pathloom.decimals import NAN, number_of_text
from pathloom.errors import Failed
from pathloom.values import to_text

ORDERS = ("ascending", "descending")
DATA_SORTS = ("text", "number")


class Sort:
    """A sort element: the function of its path, and those of the templates of its order and its data-type."""

    def __init__(self, path, order_of, data_sort_of):
        self.path = path
        self.order_of = order_of
        self.data_sort_of = data_sort_of

    def told(self, situation):
        """A tuple of whether it turns the order around, and whether it sorts by numbers."""
        order = told_word(self.order_of, situation, ORDERS)
        return (order == "descending", told_word(self.data_sort_of, situation, DATA_SORTS) == "number")

    def text_at(self, situation):
        """The text by which the current node of a situation is sorted."""
        return to_text(situation.ask(self.path))


def told_word(text_of, situation, words):
    """The text of a template, which must be one of some words."""
    text = text_of(situation)
    if text not in words:
        raise Failed("sort")
    return text


def sorted_nodes(sorts, nodes, situation):
    """Nodes in document order, sorted by sort elements."""
    if sorts == []:
        return nodes
    told = [sort.told(situation) for sort in sorts]
    rows = []
    for at, node in enumerate(nodes):
        inner = situation.at_node(node, at + 1, len(nodes))
        rows.append((node, [sort_key(sort.text_at(inner), row[1]) for sort, row in zip(sorts, told)]))
    # By the last key first, as what is alike by a key stays as it was.
    for index in reversed(range(len(sorts))):
        rows = sorted_rows(rows, index, told[index][0])
    return [row[0] for row in rows]


def sort_key(text, is_number):
    """What a text is compared by: the text itself or its number, with NaN ahead of all others."""
    if not is_number:
        return text
    number = number_of_text(text)
    return (0, 0) if number == NAN else (1, number)


def sorted_rows(rows, index, is_turned):
    """Rows sorted by one of their keys."""
    if is_turned:
        return sorted(rows, key=lambda row: row[1][index], reverse=True)
    return sorted(rows, key=lambda row: row[1][index])
