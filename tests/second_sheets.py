"""A second interpreter of stylesheets: one function for each instruction, by recursion, slow and plain.

It shares the evaluation of paths with the program, and nothing of what carries
out stylesheets. A node fits a pattern if some way from it or a node above it,
taken as a path, selects it. Modules are a main one and one that it imports.
"""

from fractions import Fraction

from pathloom.attribute_values import template_parts
from pathloom.contexts import Context, start_context
from pathloom.documents import read
from pathloom.errors import Failed
from pathloom.evaluating import value_of
from pathloom.keys import KeyWorld
from pathloom.matching import alternatives_of
from pathloom.patterns import pattern_trees
from pathloom.paths import tree_of
from pathloom.path_tokens import tokens_in
from pathloom.trees import string_value
from pathloom.values import to_text, to_truth

KNOWN = {}


def tree(text):
    return KNOWN.setdefault(text, tree_of(text))


class Made:
    """A node of a result."""

    def __init__(self, kind, name="", text=""):
        self.kind, self.name, self.text = kind, name, text
        self.attributes, self.children = {}, []

    def string(self):
        if self.kind == "text":
            return self.text
        return "".join(child.string() for child in self.children if child.kind in ("text", "element"))

    def add(self, node):
        if node.kind == "attribute":
            if self.kind == "element" and not self.children:
                self.attributes[node.name] = node.text
        elif node.kind == "text":
            if node.text and self.children and self.children[-1].kind == "text":
                self.children[-1].text += node.text
            elif node.text:
                self.children.append(Made("text", text=node.text))
        else:
            self.children.append(node)

    def written(self):
        if self.kind == "text":
            return self.text.replace("&", "&amp;").replace("<", "&lt;").replace(">", "&gt;")
        if self.kind == "comment":
            return f"<!--{self.text}-->"
        if self.kind == "instruction":
            return f"<?{self.name} {self.text}?>" if self.text else f"<?{self.name}?>"
        inner = "".join(child.written() for child in self.children)
        if self.kind == "root":
            return inner
        told = "".join(f' {name}="{quoted(text)}"' for name, text in self.attributes.items())
        return f"<{self.name}{told}>{inner}</{self.name}>" if inner else f"<{self.name}{told}/>"


def quoted(text):
    for sign, written in (("&", "&amp;"), ("<", "&lt;"), ('"', "&quot;"), ("\t", "&#9;"), ("\n", "&#10;")):
        text = text.replace(sign, written)
    return text


def copied(node):
    """Copies of a node of a source or a result; of a root its content."""
    if node.kind == "root":
        return [copy for child in node.children for copy in copied(child)]
    made = Made(node.kind, node.name, node.text)
    if node.kind == "element":
        attributes = node.attributes
        told = attributes.items() if isinstance(attributes, dict) else [(one.name, one.text) for one in attributes]
        made.attributes = dict(told)
        for child in node.children:
            for copy in copied(child):
                made.add(copy)
    return [made]


def content(node):
    """The elements and texts in an element of a module, as far as they count."""
    found = []
    for child in node.children:
        if child.kind == "element" or child.kind == "text" and (child.text.strip(" \t\n") or node.name == "xsl:text"):
            found.append(child)
    return found


def attribute(node, name):
    return next((one.text for one in node.attributes if one.name == name), None)


def parts(node, *names):
    return [child for child in node.children if child.kind == "element" and child.name in ["xsl:" + name for name in names]]


class At:
    """A current node with its place in the current list, a mode, a rule, and variables."""

    def __init__(self, node, position, size, mode, rule, variables):
        self.node, self.position, self.size, self.mode, self.rule, self.variables = node, position, size, mode, rule, variables

    def with_variables(self, variables):
        return At(self.node, self.position, self.size, self.mode, self.rule, variables)


class Second(KeyWorld):
    """A transformation; `outcome` is (text, messages) or the word of a failure."""

    def __init__(self, main, other, source, params, documents):
        main, other = [read(text).root.children[0] for text in (main, other)]
        self.modules = [other, main]
        tops = [(precedence, top) for precedence, module in enumerate(self.modules) for top in content(module)]
        KeyWorld.__init__(self, [(attribute(top, "name"), pattern_trees(attribute(top, "match")), tree(attribute(top, "use")))
                                 for _, top in tops if top.name == "xsl:key"])
        self.source, self.documents, self.messages = source, documents, []
        self.named = {attribute(top, "name"): top for _, top in tops if top.name == "xsl:template" and attribute(top, "name")}
        self.sets = {attribute(top, "name"): top for _, top in tops if top.name == "xsl:attribute-set"}
        self.globals = {attribute(top, "name"): top for _, top in tops if top.name in ("xsl:variable", "xsl:param")}
        self.values = {name: ("text", params[name]) for name, top in self.globals.items() if name in params and top.name == "xsl:param"}
        self.rules = []
        for order, (precedence, top) in enumerate(tops):
            if top.name == "xsl:template" and attribute(top, "match"):
                for text, own in alternatives_of(attribute(top, "match")):
                    rank = (precedence, Fraction(attribute(top, "priority") or own), order)
                    self.rules.append((rank, attribute(top, "mode"), [tree(text)], top, precedence))
        self.rules.sort(key=lambda rule: rule[0], reverse=True)
        self.depth = self.carried = 0
        self.main_tree = read_numbered(main.tree, len(documents) + 1)
        self.trees = {name: read_numbered(documents[name], at + 1) for at, name in enumerate(sorted(documents))}

    def outcome(self):
        root = Made("root")
        try:
            self.process([self.source.root], None, {}, root)
        except Failed as error:
            return error.fault
        return ('<?xml version="1.0"?>\n' + root.written(), self.messages)

    def document_root(self, name):
        if name in self.trees:
            return self.trees[name].root
        if name == "":
            return self.main_tree.root
        raise Failed("document")

    def variable_value(self, name):
        if name not in self.values:
            self.values[name] = None
            self.values[name] = self.declared(self.globals[name], At(self.source.root, 1, 1, None, None, {}))
        if self.values[name] is None:
            raise Failed("circle")
        return self.values[name]

    def value(self, text, at):
        return value_of(tree(text), Context(at.node, at.position, at.size, at.node, at.variables, self))

    def nodes(self, text, at):
        value = self.value(text, at)
        if value[0] != "nodes":
            raise Failed("nodes")
        return value[1]

    def filled(self, text, at):
        return "".join(told if sort == "text" else to_text(value_of(told, Context(at.node, at.position, at.size, at.node, at.variables, self)))
                       for sort, told in template_parts(text))

    def declared(self, node, at):
        if attribute(node, "select") is not None:
            return self.value(attribute(node, "select"), at)
        if not content(node):
            return ("text", "")
        return ("fragment", self.apart(node, at))

    def apart(self, node, at):
        root = Made("root")
        self.body(content(node), at, root)
        return root

    def fits(self, way, node):
        above = node
        while above is not None:
            if node in value_of(way, start_context(above, self))[1]:
                return True
            above = above.parent
        return False

    def rule_for(self, node, mode, below=None):
        for rank, own, [way], template, precedence in self.rules:
            if own == mode and (below is None or precedence < below) and self.fits(way, node):
                return (template, precedence)
        return None

    def process(self, nodes, mode, given, target):
        for at, node in enumerate(nodes):
            self.follow(self.rule_for(node, mode), At(node, at + 1, len(nodes), mode, None, {}), given, target)

    def follow(self, rule, at, given, target):
        if rule is not None:
            self.template(rule[0], At(at.node, at.position, at.size, at.mode, rule, {}), given, target)
        elif at.node.kind in ("root", "element"):
            self.enter()
            self.process(at.node.children, at.mode, {}, target)
            self.depth -= 1
        elif at.node.kind in ("text", "attribute"):
            target.add(Made("text", text=at.node.text))

    def template(self, template, at, given, target):
        at = at.with_variables({})
        for param in parts(template, "param"):
            name = attribute(param, "name")
            at.variables[name] = given[name] if name in given else self.declared(param, at)
        self.body([part for part in content(template) if part.name != "xsl:param"], at, target)

    def enter(self):
        self.depth += 1
        if self.depth > 100:
            raise Failed("deep")

    def body(self, rows, at, target):
        self.enter()
        at = at.with_variables(dict(at.variables))
        for part in rows:
            self.one(part, at, target)
        self.depth -= 1

    def one(self, part, at, target):
        self.carried += 1
        if self.carried > 20000:
            raise Failed("long")
        if part.kind == "text":
            target.add(Made("text", text=part.text))
        elif part.name.startswith("xsl:"):
            getattr(self, "do_" + part.name[4:].replace("-", "_"))(part, at, target)
        else:
            self.element(part.name, attribute(part, "xsl:use-attribute-sets"), part, at, target,
                         [one for one in part.attributes if not one.name.startswith("xsl:")])

    def element(self, name, sets, part, at, target, attributes=()):
        made = Made("element", name)
        self.use_sets(sets, At(at.node, at.position, at.size, at.mode, None, {}), made)
        for one in attributes:
            made.add(Made("attribute", one.name, self.filled(one.text, at)))
        self.body(content(part), at, made)
        target.add(made)

    def use_sets(self, names, at, made):
        for name in (names or "").split():
            self.use_sets(attribute(self.sets[name], "use-attribute-sets"), at, made)
            for part in parts(self.sets[name], "attribute"):
                self.one(part, at, made)

    def sorted(self, nodes, part, at):
        rows = parts(part, "sort")
        told = []
        for row in rows:
            order = self.filled(attribute(row, "order") or "ascending", at)
            sort = self.filled(attribute(row, "data-type") or "text", at)
            if order not in ("ascending", "descending") or sort not in ("text", "number"):
                raise Failed("sort")
            told.append((order, sort))
        nodes = list(nodes)
        keys = {node: [to_text(self.value(attribute(row, "select") or ".", At(node, index + 1, len(nodes), None, None, at.variables))) for row in rows]
                for index, node in enumerate(nodes)}
        for index in range(len(rows))[::-1]:
            order, sort = told[index]

            def key(node):
                text = keys[node][index]
                if sort == "text":
                    return text
                text = text.strip(" \t\n")
                tokens = tokens_in(text.removeprefix("-"))
                is_number = [token[0] for token in tokens] == ["number", "end"]
                return (1, Fraction(text)) if is_number else (0, 0)
            nodes.sort(key=key, reverse=order == "descending")
        return nodes

    def given(self, part, at):
        found = {}
        for param in parts(part, "with-param"):
            found[attribute(param, "name")] = self.declared(param, at)
        return found

    def do_apply_templates(self, part, at, target):
        select = attribute(part, "select")
        nodes = self.sorted(self.nodes(select, at) if select else at.node.children, part, at)
        self.process(nodes, attribute(part, "mode"), self.given(part, at), target)

    def do_apply_imports(self, part, at, target):
        if at.rule is None:
            raise Failed("rule")
        self.follow(self.rule_for(at.node, at.mode, at.rule[1]), at, {}, target)

    def do_call_template(self, part, at, target):
        self.template(self.named[attribute(part, "name")], at, self.given(part, at), target)

    def do_for_each(self, part, at, target):
        nodes = self.sorted(self.nodes(attribute(part, "select"), at), part, at)
        rows = [row for row in content(part) if row.name != "xsl:sort"]
        for index, node in enumerate(nodes):
            self.body(rows, At(node, index + 1, len(nodes), at.mode, None, at.variables), target)

    def do_if(self, part, at, target):
        if to_truth(self.value(attribute(part, "test"), at)):
            self.body(content(part), at, target)

    def do_choose(self, part, at, target):
        for way in parts(part, "when", "otherwise"):
            if way.name == "xsl:otherwise" or to_truth(self.value(attribute(way, "test"), at)):
                self.body(content(way), at, target)
                return

    def do_value_of(self, part, at, target):
        target.add(Made("text", text=to_text(self.value(attribute(part, "select"), at))))

    def do_copy_of(self, part, at, target):
        sort, value = self.value(attribute(part, "select"), at)
        if sort not in ("nodes", "fragment"):
            target.add(Made("text", text=to_text((sort, value))))
        for node in value if sort == "nodes" else [value] if sort == "fragment" else []:
            for copy in copied(node):
                target.add(copy)

    def do_copy(self, part, at, target):
        node = at.node
        if node.kind == "element":
            self.element(node.name, attribute(part, "use-attribute-sets"), part, at, target)
        elif node.kind == "root":
            self.body(content(part), at, target)
        else:
            target.add(Made(node.kind, node.name, node.text))

    def do_element(self, part, at, target):
        self.element(checked(self.filled(attribute(part, "name"), at)), attribute(part, "use-attribute-sets"), part, at, target)

    def do_attribute(self, part, at, target):
        name = checked(self.filled(attribute(part, "name"), at))
        if name == "xmlns":
            raise Failed("name")
        target.add(Made("attribute", name, self.apart(part, at).string()))

    def do_processing_instruction(self, part, at, target):
        name = checked(self.filled(attribute(part, "name"), at))
        if ":" in name or name.lower() == "xml":
            raise Failed("name")
        target.add(Made("instruction", name, self.apart(part, at).string().lstrip(" \t\n").replace("?>", "? >")))

    def do_text(self, part, at, target):
        target.add(Made("text", text=string_value(part)))

    def do_comment(self, part, at, target):
        text = ""
        for sign in self.apart(part, at).string():
            text += " -" if sign == "-" and text[-1:] == "-" else sign
        target.add(Made("comment", text=text + " " if text[-1:] == "-" else text))

    def do_message(self, part, at, target):
        self.messages.append(self.apart(part, at).string())
        if attribute(part, "terminate") == "yes":
            raise Failed("stop")

    def do_variable(self, part, at, target):
        at.variables[attribute(part, "name")] = self.declared(part, at)


def checked(name):
    if [token[0] for token in tokens_in(name)] != ["name", "end"] or name.strip() != name:
        raise Failed("name")
    return name


def read_numbered(tree_read, number):
    """A copy of a tree with a number."""
    from pathloom.writing import write
    found = read(write(tree_read))
    found.number = number
    return found
