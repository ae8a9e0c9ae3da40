"""Paths of the form of stage 9, drawn with a source of choices, and all small documents."""


def forests(size, labels):
    """All rows of elements with so many in them; a label is a name, perhaps with attributes behind it."""
    if size == 0:
        yield ""
        return
    for first in range(1, size + 1):
        for inner in forests(first - 1, labels):
            for label in labels:
                for rest in forests(size - first, labels):
                    yield f"<{label}>{inner}</{label.split()[0]}>" + rest


def small_documents(most, labels):
    for size in range(1, most + 1):
        for inner in forests(size - 1, labels):
            for label in labels:
                yield f"<{label}>{inner}</{label.split()[0]}>"


class Drawer:
    def __init__(self, choices):
        self.choices = choices

    def step(self, depth):
        pick = self.choices.choice
        name = pick(["a", "a", "b", "*", "*"])
        test = "[" + self.test(depth - 1) + "]" if depth > 0 and self.choices.random() < 0.3 else ""
        front = pick([""] * 12 + ["self::"] * 2 + ["descendant::"] * 2 + ["descendant-or-self::"] * 2 + ["."])
        return "." if front == "." else front + name + test

    def steps(self, depth, most):
        pick = self.choices.choice
        text = self.step(depth)
        for _ in range(self.choices.randrange(most)):
            text += pick(["/", "/", "//"]) + self.step(depth)
        if self.choices.random() < 0.15:
            text += pick(["/", "//"]) + pick(["@x", "@*"])
        return text

    def test(self, depth):
        chance = self.choices.random()
        if chance < 0.1:
            return self.choices.choice(["@x", "@*", "."])
        if chance < 0.2:
            return ".//" + self.steps(depth, 1)
        if chance < 0.4:
            word = " and " if chance < 0.3 else " or "
            return self.test(depth) + word + self.test(depth)
        return self.steps(depth, 2)

    def path(self):
        text = self.choices.choice(["/", "/", "//"]) + self.steps(2, 3)
        if self.choices.random() < 0.2:
            text += " | " + self.choices.choice(["/", "//"]) + self.steps(1, 3)
        return text

    def other_than(self, path):
        """A path that is somewhat like another one."""
        pick = self.choices.choice
        other = path.replace(pick(["a", "b", "/"]), pick(["*", "//", "a"]), 1)
        return other + " | " + self.path() if self.choices.random() < 0.3 else other
