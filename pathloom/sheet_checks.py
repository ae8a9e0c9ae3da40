"""The faults of a stylesheet as a whole: what is there twice, what is not there, and circles.

All of these take the parts of the stylesheet at the top level, tuples (piece,
module) in the order of reading.
"""

from pathloom.element_reading import SETS
from pathloom.errors import NotSheet


def check_whole(parts):
    """Look for the faults of the whole, one sort behind the other."""
    check_twice(parts)
    check_unknown(parts)
    check_circles(parts)


def is_global(piece):
    """Whether a part at the top level is a variable or a param."""
    return piece.word in ("variable", "param")


def counting_globals(parts):
    """The parts that are the global variables and params that count, by their names."""
    found = {}
    for piece, module in parts:
        if is_global(piece):
            name = piece.meant["name"]
            if name not in found or found[name][1].precedence < module.precedence:
                found[name] = (piece, module)
    return found


def set_pieces(parts):
    """The elements of each attribute set, by its name, in the order in which they are used."""
    found = {}
    ranked = [(module.precedence, at) for at, (_, module) in enumerate(parts)]
    for _, at in sorted(ranked):
        piece = parts[at][0]
        if piece.is_word("attribute-set"):
            found.setdefault(piece.meant["name"], []).append(piece)
    return found


def used_sets(piece):
    """The names of the attribute sets that an element uses."""
    # Without the prefix it is an attribute like others on a literal element.
    return piece.meant.get("use-attribute-sets" if piece.word is not None else SETS, [])


class Walk:
    """A walk through a part of the top level, which meets each element in it, and those variables that are visible."""

    def walk(self, top):
        """Meet an element of the top level and all in it."""
        self.meet(top, {})
        self.walk_content(top, {})

    def walk_content(self, piece, around):
        """Meet all elements in an element, where some variables are visible."""
        visible = around
        for part in piece.content:
            if part.name is not None:
                self.meet(part, visible)
                if part.content != []:
                    self.walk_content(part, visible)
                if is_global(part):
                    visible = {**visible, part.meant["name"]: True}

    def meet(self, piece, visible):
        """Meet an element; the classes below tell what for."""


class HidingWalk(Walk):
    """Looks for declarations where a variable of their name is visible."""

    def meet(self, piece, visible):
        """Look at a declaration."""
        if is_global(piece) and piece.meant["name"] in visible:
            raise NotSheet(piece.place, "twice")


class UnknownWalk(Walk):
    """Looks for names of what is not there, if `names` has those that are, by the sort."""

    def __init__(self, names):
        self.names = names

    def meet(self, piece, visible):
        """Look at all that an element names."""
        for name in piece.variables:
            if name not in visible:
                self.look_up("global", name, piece)
        if piece.is_word("call-template"):
            self.look_up("template", piece.meant["name"], piece)
        for name in used_sets(piece):
            self.look_up("set", name, piece)

    def look_up(self, sort, name, piece):
        """Look whether there is something of a sort and name."""
        if (sort, name) not in self.names:
            raise NotSheet(piece.place, "unknown")


class UseWalk(Walk):
    """Finds the names of the global variables that are used."""

    def __init__(self):
        self.found = {}

    def meet(self, piece, visible):
        """Find those that an element uses."""
        for name in piece.variables:
            if name not in visible:
                self.found[name] = True


def check_twice(parts):
    """Look for the second one of two of one name, and for declarations that hide others."""
    seen = {}
    for piece, module in parts:
        sort = sort_of_name(piece)
        if sort is not None:
            key = (sort, piece.meant["name"], module.precedence)
            if key in seen:
                raise NotSheet(piece.place, "twice")
            seen[key] = True
        HidingWalk().walk(piece)


def sort_of_name(piece):
    """What the name of a part must differ from the names of, None if it may have any."""
    if is_global(piece):
        return "global"
    if piece.is_word("template") and "name" in piece.meant:
        return "template"
    return None


def check_unknown(parts):
    """Look for names of variables, templates and sets that are not there."""
    names = {("set", name): True for name in set_pieces(parts)}
    for piece, _ in parts:
        sort = sort_of_name(piece)
        if sort is not None:
            names[(sort, piece.meant["name"])] = True
    for piece, _ in parts:
        UnknownWalk(names).walk(piece)


def check_circles(parts):
    """Look for attribute sets and for global variables that use themselves."""
    sets = set_pieces(parts)
    ways = {}
    for name in sets:
        ways[("set", name)] = [("set", other) for piece in sets[name] for other in used_sets(piece)]
    counting = counting_globals(parts)
    for name in counting:
        walk = UseWalk()
        walk.walk(counting[name][0])
        ways[("global", name)] = [("global", other) for other in walk.found]
    for piece, module in parts:
        key = None
        if piece.is_word("attribute-set"):
            key = ("set", piece.meant["name"])
        elif is_global(piece) and counting[piece.meant["name"]] == (piece, module):
            key = ("global", piece.meant["name"])
        if key is not None and leads_to_itself(key, ways):
            raise NotSheet(piece.place, "circle")


def leads_to_itself(key, ways):
    """Whether ways from one thing to others lead back to it."""
    reached = {}
    waiting = list(ways[key])
    while waiting:
        other = waiting.pop()
        if other == key:
            return True
        if other not in reached:
            reached[other] = True
            waiting.extend(ways[other])
    return False
