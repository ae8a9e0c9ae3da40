"""Documents: texts that are read as trees."""

from pathloom.errors import BadValue, NotDocument
from pathloom.scanner import Scanner
from pathloom.signs import end_of_signs, is_blank
from pathloom.trees import Node, Tree


def read(text):
    """The tree of a document; NotDocument tells how much of the text a document begins with."""
    if not isinstance(text, str):
        raise BadValue("a document is a text")
    # No document goes on with what is no sign, so that the signs ahead of it decide.
    end = end_of_signs(text)
    tree = Reader(text[:end]).read_document()
    if end < len(text):
        raise NotDocument(end)
    return tree


class Reader:
    """One reading of a text of signs.

    `here` is the innermost node that is open, `pieces` are the signs of the
    text at its end, of which no node has been made yet.
    """

    def __init__(self, text):
        self.scan = Scanner(text)
        self.root = Node("root", None, "")
        self.here = self.root
        self.has_outermost = False
        self.pieces = []

    def read_document(self):
        """Read the whole text; return its tree."""
        self.read_declaration()
        scan = self.scan
        while scan.at < len(scan.text):
            if self.here.kind == "root":
                self.read_part_around()
            else:
                self.read_part_of_content()
        if self.here.kind != "root" or not self.has_outermost:
            raise NotDocument(self.scan.at)
        return Tree(self.root)

    def read_declaration(self):
        """Read the declaration, if there is one."""
        # Without the blank these signs begin an instruction, as in <?xmlish?>.
        if self.scan.text.startswith("<?xml") and is_blank(self.scan.text[5:6]):
            self.scan.read_up_to("?>")

    def read_part_around(self):
        """Read blanks, a comment, an instruction, or the tag that begins the outermost element."""
        scan = self.scan
        if scan.read_blanks():
            return
        scan.expect("<")
        if scan.peek() == "!":
            self.read_comment()
        elif scan.peek() == "?":
            self.read_instruction()
        elif self.has_outermost:
            raise NotDocument(scan.at)
        else:
            self.has_outermost = True
            self.read_tag()

    def read_part_of_content(self):
        """Read one part of the content of the element that is open, or its end."""
        scan = self.scan
        sign = scan.peek()
        if sign == "<":
            scan.at += 1
            self.read_markup()
        elif sign == "&":
            self.pieces.append(scan.read_reference())
        else:
            self.pieces.append(scan.read_plain())

    def read_markup(self):
        """Read what goes on behind a `<` in a content."""
        sign = self.scan.peek()
        if sign == "/":
            self.read_end_tag()
        elif sign == "!":
            self.read_comment_or_cdata()
        elif sign == "?":
            self.read_instruction()
        else:
            self.read_tag()

    def read_comment_or_cdata(self):
        """Read the rest of a comment or of a CDATA part, which begin alike."""
        if self.scan.text.startswith("![", self.scan.at):
            self.scan.expect("![CDATA[")
            self.pieces.append(self.scan.read_up_to("]]>"))
        else:
            self.read_comment()

    def read_comment(self):
        """Read the rest of a comment."""
        self.scan.expect("!--")
        text = self.scan.read_up_to("--")
        self.scan.expect(">")
        self.put(Node("comment", None, text))

    def read_instruction(self):
        """Read the rest of an instruction."""
        scan = self.scan
        scan.expect("?")
        name = scan.read_name()
        if name.lower() == "xml":
            raise NotDocument(scan.at)
        text = ""
        if scan.read_blanks():
            text = scan.read_up_to("?>")
        else:
            scan.expect("?>")
        self.put(Node("instruction", name, text))

    def read_tag(self):
        """Read the rest of the tag that begins an element."""
        scan = self.scan
        node = Node("element", scan.read_name(), "")
        if scan.peek() != ">" and scan.read_blanks():
            self.read_attributes(node)
        is_open = scan.peek() == ">"
        scan.expect(">" if is_open else "/>")
        self.put(node)
        if is_open:
            self.here = node

    def read_attributes(self, node):
        """Read the attributes of an element, and the blanks behind them."""
        scan = self.scan
        known = {}
        while scan.peek() not in ("/", ">"):
            name = scan.read_name()
            if name in known:
                raise NotDocument(scan.at)
            known[name] = True
            node.put_attribute(Node("attribute", name, scan.read_attribute_text()))
            if not scan.read_blanks():
                return

    def read_end_tag(self):
        """Read the rest of the end tag of the element that is open."""
        scan = self.scan
        end = "/" + self.here.name
        if scan.text.startswith(end + ">", scan.at):
            scan.at += len(end) + 1
        else:
            scan.expect(end)
            scan.read_blanks()
            scan.expect(">")
        if self.pieces != []:
            self.put_text()
        self.here = self.here.parent

    def put(self, node):
        """Put a node behind all that has been read of the node that is open."""
        if self.pieces != []:
            self.put_text()
        self.here.put_child(node)

    def put_text(self):
        """Make one text of all signs that met, if there are any."""
        text = "".join(self.pieces)
        self.pieces = []
        if text != "":
            self.here.put_child(Node("text", None, text))
