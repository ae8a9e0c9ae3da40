"""Stylesheets at work."""

from pathloom.errors import Failed
from pathloom.frames import BodyFrame, GlobalFrame, ProcessFrame, TemplateFrame
from pathloom.result_trees import Making
from pathloom.sheet_worlds import NeedsGlobal
from pathloom.situations import Situation

MOST_BODIES = 100
MOST_CARRIED = 20000


class Machine:
    """A transformation at work.

    `work` are the frames of what is being carried out, the innermost one last:
    a list of them, not recursion, as bodies may stand in one another for long.
    `depth` is the number of the bodies at work, `carried` that of the
    instructions that were carried out.
    """

    def __init__(self, program, world):
        self.program = program
        self.world = world
        self.made = Making()
        self.messages = []
        self.work = []
        self.depth = 0
        self.carried = 0

    def start_situation(self):
        """The situation at the root of the source."""
        return Situation(self.world.source.root, 1, 1, None, None, {}, self.world)

    def run(self):
        """Carry out the stylesheet."""
        self.begin_list([self.world.source.root], None, {}, False)
        while self.work:
            frame = self.work[-1]
            try:
                frame.step(self)
            except NeedsGlobal as needed:
                # A frame changes nothing ahead of the paths that it asks for, so that it can begin its step anew.
                self.begin_global(needed.name)

    def begin_global(self, name):
        """Begin to find the value of a global variable."""
        self.world.global_values[name] = None
        self.work.append(GlobalFrame(self.program.declarations[name], self.start_situation()))

    def enter(self):
        """Count a body that begins."""
        if self.depth == MOST_BODIES:
            raise Failed("deep")
        self.depth += 1

    def leave(self):
        """Count a body that ends."""
        self.depth -= 1

    def check_long(self):
        """Fail if nothing more may be carried out."""
        if self.carried == MOST_CARRIED:
            raise Failed("long")

    def begin_body(self, body, situation, ending):
        """Begin a body; the ending, if there is one, is what finishes it."""
        self.enter()
        if body.declares:
            situation = situation.with_variables(dict(situation.variables))
        self.work.append(BodyFrame(body.instructions, situation, ending))

    def begin_apart(self, body, situation, ending):
        """Begin a body that makes a tree of its own, of which the ending makes something."""
        ending.target = self.made.begin_apart()
        self.begin_body(body, situation, ending)

    def begin_list(self, nodes, mode, given, is_body):
        """Begin to process nodes in a mode with params that are handed on."""
        if is_body:
            self.enter()
        self.work.append(ProcessFrame(nodes, mode, given, is_body))

    def begin_template(self, template, situation, given):
        """Begin a template with params that are handed on; the variables of the situation are its own ones."""
        if template.params == []:
            self.begin_body(template.content, situation, None)
        else:
            self.work.append(TemplateFrame(template, situation, given))

    def process(self, node, position, size, mode, given):
        """Process one of some nodes by the rule that is chosen for it."""
        template = self.program.rules.template_for(node, mode, None, self.world)
        if template is None:
            self.follow_built_in(node, mode)
        else:
            situation = Situation(node, position, size, mode, template, {}, self.world)
            self.begin_template(template, situation, given)

    def follow_built_in(self, node, mode):
        """Follow the built-in rule for a node."""
        if node.kind in ("root", "element"):
            self.begin_list(node.children, mode, {}, True)
        elif node.kind in ("text", "attribute"):
            self.made.put_text(node.text, (None, node))
