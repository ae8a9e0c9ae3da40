"""The nodes of steps by the words of the document, from the places alone: slow and plain.

It knows of a tree what the module `places` of the program tells.
"""

from pathloom.places import kind_at, name_at, places


class Told:
    """What is told of a tree: all places in document order, their kinds and names."""

    def __init__(self, tree):
        self.places = places(tree)
        self.index = {place: at for at, place in enumerate(self.places)}
        self.kind = {place: kind_at(tree, place) for place in self.places}
        self.name = {place: name_at(tree, place) for place in self.places}

    def axis(self, axis, node):
        """The places of an axis, in its direction."""
        found = [other for other in self.places if self.is_on(axis, node, other)]
        back = ("parent", "ancestor", "ancestor-or-self", "preceding", "preceding-sibling")
        return found[::-1] if axis in back else found

    def is_on(self, axis, node, other):
        inside = other[:len(node)] == node and other != node
        above = node[:len(other)] == other and other != node
        behind = self.index[other] > self.index[node]
        plain = self.kind[other] != "attribute"
        siblings = node and other and node[:-1] == other[:-1] and plain and self.kind[node] != "attribute"
        return {
            "self": node == other, "child": inside and len(other) == len(node) + 1 and plain,
            "parent": above and len(other) == len(node) - 1,
            "attribute": inside and len(other) == len(node) + 1 and not plain, "descendant": inside and plain,
            "ancestor": above, "descendant-or-self": node == other or inside and plain,
            "ancestor-or-self": node == other or above, "following-sibling": bool(siblings and behind),
            "preceding-sibling": bool(siblings and not behind and node != other),
            "following": plain and behind and not inside, "preceding": plain and not behind and not above and node != other,
            "namespace": False,
        }[axis]

    def passes(self, axis, test, node):
        """Whether a node passes a test."""
        principal = self.kind[node] == ("attribute" if axis == "attribute" else "element")
        if test[0] == "name":
            return principal and self.name[node] == test[1]
        if test[0] == "any":
            return principal
        if test[1] == "node":
            return True
        return self.kind[node] == test[1] and test[2] in (None, self.name[node])

    def steps(self, nodes, steps, passed):
        """The places that steps lead to; `passed` tells whether a predicate is passed by (place, position, size)."""
        for axis, test, predicates in steps:
            found = set()
            for node in nodes:
                row = [other for other in self.axis(axis, node) if self.passes(axis, test, other)]
                for predicate in predicates:
                    row = [other for at, other in enumerate(row) if passed(predicate, other, at + 1, len(row))]
                found |= set(row)
            nodes = sorted(found, key=self.index.get)
        return nodes
