"""The elements of stylesheets: their attributes, and what may stand in them."""

# For each element tuples (attribute, sort of its value, whether it is required), in the order of the table.
ATTRIBUTES = {
    "import": (("href", "any", True),),
    "include": (("href", "any", True),),
    "strip-space": (("elements", "names or all", True),),
    "preserve-space": (("elements", "names or all", True),),
    "output": (
        ("method", "method", False), ("omit-xml-declaration", "yes or no", False),
        ("cdata-section-elements", "names", False), ("version", "any", False), ("encoding", "any", False),
        ("standalone", "yes or no", False), ("indent", "any", False), ("media-type", "any", False),
        ("doctype-system", "any", False), ("doctype-public", "any", False),
    ),
    "key": (("name", "name", True), ("match", "pattern", True), ("use", "closed path", True)),
    "attribute-set": (("name", "name", True), ("use-attribute-sets", "names", False)),
    "template": (
        ("match", "pattern", False), ("name", "name", False), ("priority", "decimal", False), ("mode", "name", False),
    ),
    "variable": (("name", "name", True), ("select", "path", False)),
    "param": (("name", "name", True), ("select", "path", False)),
    "with-param": (("name", "name", True), ("select", "path", False)),
    "apply-templates": (("select", "path", False), ("mode", "name", False)),
    "apply-imports": (),
    "call-template": (("name", "name", True),),
    "for-each": (("select", "path", True),),
    "sort": (("select", "path", False), ("order", "template", False), ("data-type", "template", False)),
    "if": (("test", "path", True),),
    "when": (("test", "path", True),),
    "choose": (),
    "otherwise": (),
    "value-of": (("select", "path", True),),
    "copy-of": (("select", "path", True),),
    "copy": (("use-attribute-sets", "names", False),),
    "element": (("name", "template", True), ("use-attribute-sets", "names", False)),
    "attribute": (("name", "template", True),),
    "processing-instruction": (("name", "template", True),),
    "text": (),
    "comment": (),
    "message": (("terminate", "yes or no", False),),
}

TOP_WORDS = (
    "import", "include", "strip-space", "preserve-space", "output", "key", "attribute-set", "variable", "param",
    "template",
)
INSTRUCTIONS = (
    "apply-templates", "apply-imports", "call-template", "for-each", "if", "choose", "value-of", "copy-of", "copy",
    "element", "attribute", "processing-instruction", "text", "comment", "message", "variable",
)
BODIES = (
    "template", "variable", "param", "with-param", "for-each", "if", "when", "otherwise", "copy", "element",
    "attribute", "processing-instruction", "comment", "message",
)
# The elements that stand ahead of the body of another one.
AHEAD_OF_BODY = {"template": "param", "for-each": "sort"}
# The elements that alone may stand in what has no body; none in all others.
CONTENTS = {
    "attribute-set": ("attribute",), "apply-templates": ("sort", "with-param"), "call-template": ("with-param",),
    "choose": ("when", "otherwise"),
}
MOST_LEVELS = 60
