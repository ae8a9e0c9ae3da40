"""Edits of trees."""

from pathloom.edit_drafts import Draft
from pathloom.node_parts import parts_in_order
from pathloom.places import node_at
from pathloom.trees import check_tree, place_of


def edited(tree, edit):
    """The tree that an edit makes of a tree."""
    check_tree(tree)
    return Draft(tree, edit).new_tree


def followed(tree, edit, place):
    """The place that the node at a place has behind an edit, None if it has gone."""
    check_tree(tree)
    draft = Draft(tree, edit)
    copy = draft.copies[node_at(tree, place)]
    return place_of(copy) if copy.tree == draft.new_tree else None


def touched_parts(tree, edit):
    """The parts of nodes that an edit touches: tuples (place ahead of the edit, part), in document order."""
    check_tree(tree)
    draft = Draft(tree, edit)
    found = {}
    for node in tree.nodes:
        copy = draft.copies[node]
        if copy in draft.gone:
            found[(node, "parent")] = True
            # Only of a text that was given the empty text.
            if copy.text != node.text:
                found[(node, "text")] = True
        elif copy.tree == draft.new_tree:
            note_differences(node, copy, draft.copies, found)
    return parts_in_order(tree, found)


def note_differences(node, copy, copies, found):
    """Put the parts of a node that are other ones behind an edit among those that were found."""
    if copy.children != [copies[child] for child in node.children]:
        found[(node, "children")] = True
    if copy.attributes != [copies[attribute] for attribute in node.attributes]:
        found[(node, "attributes")] = True
    if copy.name != node.name:
        found[(node, "name")] = True
    if copy.text != node.text:
        found[(node, "text")] = True
    if node.parent is not None and copy.parent != copies[node.parent]:
        found[(node, "parent")] = True
