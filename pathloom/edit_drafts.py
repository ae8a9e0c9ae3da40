"""Edits carried out on copies of trees."""

from pathloom.documents import read
from pathloom.errors import BadValue, NotDocument
from pathloom.places import node_at
from pathloom.signs import end_of_signs, is_name
from pathloom.trees import Node, Tree, node_copies

LEAVES = ("text", "comment", "instruction")
HOLDERS = ("root", "element")


class Draft:
    """A copy of a tree, on which an edit is carried out.

    `copies` has for each node of the tree its copy, `gone` the copies that go
    by themselves, not with what they are in, `new_tree` what comes out.
    """

    def __init__(self, tree, edit):
        self.tree = tree
        self.copies = node_copies(tree, {})
        self.gone = {}
        if not isinstance(edit, tuple) or edit == () or not isinstance(edit[0], str) or edit[0] not in EDITS:
            raise BadValue("an edit is a tuple that begins with one of seven words")
        if len(edit) != SIZES[edit[0]]:
            raise BadValue("an edit has as many members as its word asks for")
        carry_out = EDITS[edit[0]]
        told = edit[1:]
        carry_out(self, *told)
        root = self.copies[tree.root]
        outer = [child.kind for child in root.children]
        if outer.count("element") != 1 or "text" in outer:
            raise BadValue("what comes out is no document")
        self.new_tree = Tree(root)

    def copy_at(self, place, kinds):
        """The copy of the node at a place, which must be of one of some kinds."""
        node = node_at(self.tree, place)
        if node.kind not in kinds:
            raise BadValue("such a node stands not there")
        return self.copies[node]

    def put_apart(self, copy):
        """Make a copy one that goes by itself."""
        self.gone[copy] = True

    def settle(self, parent, children):
        """Give a node other children, without empty texts and with one text where some meet."""
        found = []
        for child in children:
            if child.kind == "text" and child.text == "":
                self.put_apart(child)
            elif child.kind == "text" and found != [] and found[-1].kind == "text":
                first = found[-1]
                first.text = first.text + child.text
                self.put_apart(child)
            else:
                found.append(child)
        parent.children = []
        for child in found:
            parent.put_child(child)


def set_text(draft, place, text):
    """Carry out ("text", place, text)."""
    copy = draft.copy_at(place, LEAVES)
    check_signs(text)
    if copy.kind == "comment" and ("--" in text or text.endswith("-")):
        raise BadValue("no comment has this text")
    if copy.kind == "instruction" and ("?>" in text or text[:1] in (" ", "\t", "\n")):
        raise BadValue("no instruction has this text")
    copy.text = text
    draft.settle(copy.parent, copy.parent.children)


def set_attribute(draft, place, name, text):
    """Carry out ("set", place, name, text)."""
    copy = draft.copy_at(place, ("element",))
    check_name(name)
    check_signs(text)
    for attribute in copy.attributes:
        if attribute.name == name:
            attribute.text = text
            return
    copy.put_attribute(Node("attribute", name, text))


def unset_attribute(draft, place, name):
    """Carry out ("unset", place, name)."""
    copy = draft.copy_at(place, ("element",))
    check_name(name)
    found = [attribute for attribute in copy.attributes if attribute.name == name]
    if found == []:
        raise BadValue("the element has no such attribute")
    draft.put_apart(found[0])
    copy.attributes = [attribute for attribute in copy.attributes if attribute.name != name]


def rename_node(draft, place, name):
    """Carry out ("rename", place, name)."""
    copy = draft.copy_at(place, ("element", "instruction"))
    check_name(name)
    if copy.kind == "instruction" and name.lower() == "xml":
        raise BadValue("no instruction has this name")
    copy.name = name


def insert_content(draft, place, index, content):
    """Carry out ("insert", place, index, content)."""
    parent = draft.copy_at(place, HOLDERS)
    check_index(index, parent)
    if not isinstance(content, str):
        raise BadValue("a content is a text")
    try:
        # No content can end the element around it and begin another one, as a document has one alone.
        inserted = read("<r>" + content + "</r>").root.children[0].children
    except NotDocument:
        raise BadValue("this is no content of an element") from None
    draft.settle(parent, parent.children[:index] + inserted + parent.children[index:])


def delete_node(draft, place):
    """Carry out ("delete", place)."""
    copy = draft.copy_at(place, ("element", *LEAVES))
    draft.put_apart(copy)
    draft.settle(copy.parent, without(copy, copy.parent.children))


def move_node(draft, place, goal, index):
    """Carry out ("move", place, goal, index)."""
    copy = draft.copy_at(place, ("element", *LEAVES))
    target = draft.copy_at(goal, HOLDERS)
    check_index(index, target)
    if goal[:len(place)] == place:
        raise BadValue("a node cannot be moved into itself")
    front = without(copy, target.children[:index])
    behind = without(copy, target.children[index:])
    if copy.parent != target:
        draft.settle(copy.parent, without(copy, copy.parent.children))
    draft.settle(target, [*front, copy, *behind])


def without(node, nodes):
    """Some nodes but one."""
    return [other for other in nodes if other != node]


def check_signs(text):
    """Raise BadValue for what is no text of signs."""
    if not isinstance(text, str) or end_of_signs(text) < len(text):
        raise BadValue("a text consists of signs")


def check_name(name):
    """Raise BadValue for what is no name."""
    if not isinstance(name, str) or not is_name(name):
        raise BadValue("this is no name")


def check_index(index, parent):
    """Raise BadValue for what is no index of a child, or of what is behind all children."""
    if not isinstance(index, int) or isinstance(index, bool) or index < 0 or index > len(parent.children):
        raise BadValue("this is no index of a child")


EDITS = {
    "text": set_text, "set": set_attribute, "unset": unset_attribute, "rename": rename_node, "insert": insert_content,
    "delete": delete_node, "move": move_node,
}
SIZES = {"text": 3, "set": 4, "unset": 3, "rename": 3, "insert": 4, "delete": 2, "move": 4}
