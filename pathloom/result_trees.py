"""The trees that stylesheets make."""


class MadeNode:
    """A node of a result or a fragment; its origin is a tuple (place of the instruction, current node)."""

    __slots__ = ("kind", "name", "text", "attributes", "children", "parent", "origin")

    def __init__(self, kind, name, text, origin):
        self.kind = kind
        self.name = name
        self.text = text
        self.attributes = []
        self.children = []
        self.parent = None
        self.origin = origin

    def string(self):
        """The text of all texts in a root or an element."""
        if len(self.children) == 1 and self.children[0].kind == "text":
            return self.children[0].text
        pieces = []
        waiting = self.children[::-1]
        while waiting:
            node = waiting.pop()
            if node.kind == "text":
                pieces.append(node.text)
            else:
                waiting.extend(node.children[::-1])
        return "".join(pieces)


def made_root():
    """The root of a new tree."""
    return MadeNode("root", None, "", None)


class Making:
    """What is being made: `target` is the innermost root or element that is not complete."""

    def __init__(self):
        self.root = made_root()
        self.target = self.root

    def put_text(self, text, origin):
        """Put a text behind all else; one that meets a text becomes a part of it."""
        if text == "":
            return
        children = self.target.children
        last = children[-1] if children != [] else None
        if last is not None and last.kind == "text":
            last.text += text
        else:
            self.put_child(MadeNode("text", None, text, origin))

    def put_child(self, node):
        """Put a node behind all else."""
        node.parent = self.target
        self.target.children.append(node)

    def open_element(self, name, origin):
        """Begin an element."""
        node = MadeNode("element", name, "", origin)
        self.put_child(node)
        self.target = node

    def close_element(self):
        """End the element that is being made."""
        self.target = self.target.parent

    def put_attribute(self, name, text, origin):
        """Put an attribute into the element that is being made, if one is and it has no children."""
        target = self.target
        if target.kind != "element" or target.children != []:
            return
        for attribute in target.attributes:
            if attribute.name == name:
                attribute.text = text
                attribute.origin = origin
                return
        node = MadeNode("attribute", name, text, origin)
        node.parent = target
        target.attributes.append(node)

    def begin_apart(self):
        """Begin a tree of its own; return what was being made."""
        target = self.target
        self.target = made_root()
        return target

    def end_apart(self, target):
        """End a tree of its own and go on with what was being made; return its root."""
        root = self.target
        self.target = target
        return root

    def put_leaf(self, kind, name, text, origin):
        """Put an attribute, a comment or an instruction with a text as it is made by its body."""
        if kind == "attribute":
            self.put_attribute(name, text, origin)
        elif kind == "comment":
            self.put_child(MadeNode(kind, name, comment_text(text), origin))
        else:
            self.put_child(MadeNode(kind, name, text.lstrip(" \t\n").replace("?>", "? >"), origin))

    def put_alike(self, node, origin):
        """Put a node like one that is no root and no element."""
        if node.kind == "text":
            self.put_text(node.text, origin)
        elif node.kind == "attribute":
            self.put_attribute(node.name, node.text, origin)
        else:
            self.put_child(MadeNode(node.kind, node.name, node.text, origin))

    def put_copy(self, node, origin):
        """Put a copy of a node with all that is in it, of a root the content alone."""
        waiting = [node]
        while waiting:
            part = waiting.pop()
            if part is None:
                self.close_element()
            elif part.kind == "root":
                waiting.extend(part.children[::-1])
            elif part.kind == "element":
                self.open_element(part.name, origin)
                for attribute in part.attributes:
                    self.put_attribute(attribute.name, attribute.text, origin)
                waiting.append(None)
                waiting.extend(part.children[::-1])
            else:
                self.put_alike(part, origin)


def comment_text(text):
    """A text with blanks where a comment must have them: between two `-`, and behind one at the end."""
    while "--" in text:
        text = text.replace("--", "- -")
    return text + " " if text.endswith("-") else text


def nodes_made(root):
    """All nodes below a root, in document order, as tuples (node, place)."""
    found = []
    waiting = [(root, ())]
    while waiting:
        node, place = waiting.pop()
        found.append((node, place))
        for attribute in node.attributes:
            found.append((attribute, (*place, "@" + attribute.name)))
        below = [(child, (*place, at)) for at, child in enumerate(node.children)]
        waiting.extend(below[::-1])
    return found[1:]
