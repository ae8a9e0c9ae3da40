"""The errors of the interface.

The fields are all that a caller may rely on; `why` is free, but where the
document tells it.
"""


class TreeError(ValueError):
    """What all errors of the interface have in common."""

    def __init__(self, why=""):
        self.why = why


class BadValue(TreeError):
    """An argument is not of the kind that is asked for."""

    def __init__(self, why=""):
        TreeError.__init__(self, why)


class NotDocument(TreeError):
    """A text is no document; some document begins with its first `at` signs."""

    def __init__(self, at):
        TreeError.__init__(self, f"no document goes on like this at {at}")
        self.at = at


class NotPath(TreeError):
    """A text is no path; some path begins with its first `at` signs."""

    def __init__(self, at):
        TreeError.__init__(self, f"no path goes on like this at {at}")
        self.at = at


class NotPattern(TreeError):
    """A text is no pattern; some pattern begins with its first `at` signs."""

    def __init__(self, at):
        TreeError.__init__(self, f"no pattern goes on like this at {at}")
        self.at = at


class NotForm(TreeError):
    """A path has none of the forms of which it is told what holds on every document."""

    def __init__(self, why=""):
        TreeError.__init__(self, why)


class NotPlain(TreeError):
    """A stylesheet is not plain, by the node at `place`."""

    def __init__(self, place):
        TreeError.__init__(self, f"not plain at {place}")
        self.place = place


class NotSheet(TreeError):
    """A module is no part of a stylesheet, by the fault of the node at `place`."""

    def __init__(self, place, fault):
        TreeError.__init__(self, f"{fault} at {place}")
        self.place = place
        self.fault = fault


class Failed(TreeError):
    """A path or a stylesheet fails when it is carried out."""

    def __init__(self, fault):
        TreeError.__init__(self, f"failed: {fault}")
        self.fault = fault


class TooLarge(TreeError):
    """More than `most` things would have to be looked at."""

    def __init__(self, most):
        TreeError.__init__(self, f"more than {most}")
        self.most = most
