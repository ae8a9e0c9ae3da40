"""Edits on a model of trees, by the words of stage 11 alone; and edits drawn with a source of choices.

Nodes of the model are objects of their own; the tree is read off what the
program tells of places. A list `children` and a list `attributes` hold nodes.
"""

from pathloom.places import kind_at, name_at, places, string_at


class ModelNode:
    def __init__(self, kind, name, text):
        self.kind, self.name, self.text = kind, name, text
        self.attributes, self.children, self.parent = [], [], None


class Model:
    """A tree, and `old`: its nodes by their places ahead of any edit."""

    def __init__(self, tree):
        self.old = {}
        for place in places(tree):
            kind = kind_at(tree, place)
            text = "" if kind in ("root", "element") else string_at(tree, place)
            node = self.old[place] = ModelNode(kind, name_at(tree, place), text)
            if place:
                node.parent = self.old[place[:-1]]
                (node.parent.attributes if kind == "attribute" else node.parent.children).append(node)
        self.root = self.old[()]
        self.parts = {place: parts(node) for place, node in self.old.items()}
        self.gone_alone = set()

    def apply(self, edit, content=None):
        """Carry out an edit that is one; `content` are the nodes of an insert."""
        node = self.old[edit[1]]
        if edit[0] == "text":
            node.text = edit[2]
        elif edit[0] == "rename":
            node.name = edit[2]
        elif edit[0] == "unset":
            [attribute] = [one for one in node.attributes if one.name == edit[2]]
            node.attributes.remove(attribute)
            self.gone_alone.add(attribute)
        elif edit[0] == "set":
            found = [one for one in node.attributes if one.name == edit[2]]
            if found:
                found[0].text = edit[3]
            else:
                attribute = ModelNode("attribute", edit[2], edit[3])
                attribute.parent = node
                node.attributes.append(attribute)
        elif edit[0] == "insert":
            node.children[edit[2]:edit[2]] = content
            for one in content:
                one.parent = node
        elif edit[0] == "delete":
            node.parent.children.remove(node)
            self.gone_alone.add(node)
        else:
            goal = self.old[edit[2]]
            ahead = goal.children[edit[3]] if edit[3] < len(goal.children) else None
            if ahead is not node:
                node.parent.children.remove(node)
                at = goal.children.index(ahead) if ahead is not None else len(goal.children)
                goal.children.insert(at, node)
                node.parent = goal
        self.settle(self.root)

    def settle(self, node):
        kept = []
        for child in node.children:
            if child.kind == "text" and child.text == "":
                self.gone_alone.add(child)
            elif child.kind == "text" and kept and kept[-1].kind == "text":
                kept[-1].text += child.text
                self.gone_alone.add(child)
            else:
                kept.append(child)
        node.children = kept
        for child in kept:
            self.settle(child)

    def new_places(self):
        found = {}

        def walk(node, place):
            found[node] = place
            for attribute in node.attributes:
                found[attribute] = (*place, "@" + attribute.name)
            for at, child in enumerate(node.children):
                walk(child, (*place, at))
        walk(self.root, ())
        return found

    def touched(self):
        """The parts that are others now."""
        there = self.new_places()
        found = []
        for place, node in self.old.items():
            before, now = self.parts[place], parts(node)
            for part in before:
                if node in self.gone_alone:
                    # Its text only if it was given the empty one.
                    is_touched = part == "parent" or part == "text" and node.text == "" != before["text"]
                else:
                    is_touched = node in there and before[part] != now[part]
                if is_touched:
                    found.append((place, part))
        return found


def parts(node):
    found = {}
    if node.kind in ("root", "element"):
        found["children"] = list(node.children)
    if node.kind == "element":
        found["attributes"] = list(node.attributes)
    found.update(name=node.name, text=node.text)
    if node.kind != "root":
        found["parent"] = node.parent
    return found


CONTENTS = ["", "x", "<n/>", "x<n a='1'>y</n>z", "<!--c-->", "<?p q?>", "&lt;", "<![CDATA[]]>", "<n/><n/>", "<![CDATA[x]]>y", "<n/>t"]


def drawn_edit(choices, tree):
    """A tuple that is an edit, or is somewhat like one."""
    spots = places(tree)
    pick = choices.choice
    place = pick(spots)
    index = choices.randrange(4)
    name = pick(["a", "b", "n:m", "xml", "k"])
    text = pick(["", "x", "-", "a--b", "?>", " y", "&<>", "zz"])
    attributes = [spot for spot in spots if spot and isinstance(spot[-1], str)]
    if attributes and choices.random() < 0.15:
        spot = pick(attributes)
        return pick([("unset", spot[:-1], spot[-1][1:]), ("set", spot[:-1], spot[-1][1:], text)])
    return pick([
        ("text", place, text), ("set", place, name, text), ("unset", place, name), ("rename", place, name), ("insert", place, index, pick(CONTENTS)),
        ("delete", place), ("delete", place), ("move", place, pick(spots), index), ("move", place, pick(spots), index), ("move", place, place[:-1], index),
    ])


def drawn_document(choices, size=4, top=True):
    """A document with all kinds of nodes."""
    pick = choices.choice
    pieces = []
    last = ""
    for _ in range(choices.randrange(size + 1)):
        sort = pick(["element", "element", "text", "comment", "instruction"])
        if sort == "element":
            name = pick("abc")
            told = "".join(f" {key}='{pick(['1', '2', 'x', ''])}'" for key in ("k", "id") if choices.random() < 0.4)
            pieces.append(f"<{name}{told}>{drawn_document(choices, size - 1, False)}</{name}>")
        elif sort == "text" and last != "text":
            pieces.append(pick(["1", "2", "x", " y "]))
        else:
            pieces.append(pick(["<!--c-->", "<!---->"]) if sort == "comment" else pick(["<?p q?>", "<?r?>"]))
        last = sort
    inner = "".join(pieces)
    if not top:
        return inner
    return pick(["", "<!--h-->"]) + f"<a>{inner}</a>" + pick(["", "", "<?t?>"])
