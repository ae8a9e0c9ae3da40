"""Nodes written as texts."""


def markup_of(nodes, cdata_names):
    """The text of nodes beside one another; texts in elements with some names are written as CDATA parts."""
    pieces = []
    # A list of what waits, not recursion: trees may be hundreds of levels deep.
    waiting = nodes[::-1]
    while waiting:
        node = waiting.pop()
        if isinstance(node, str):
            pieces.append(node)
        elif node.kind == "element":
            if node.children == []:
                pieces.append(tag_of(node, "/>"))
            else:
                pieces.append(tag_of(node, ">"))
                waiting.append(f"</{node.name}>")
                waiting.extend(node.children[::-1])
        elif node.kind == "text":
            pieces.append(text_markup(node, cdata_names))
        elif node.kind == "comment":
            pieces.append(f"<!--{node.text}-->")
        else:
            pieces.append(instruction_markup(node))
    return "".join(pieces)


def tag_of(node, end):
    """The tag that begins an element, with a told end."""
    if node.attributes == []:
        return "<" + node.name + end
    told = [f' {attribute.name}="{attribute_markup(attribute.text)}"' for attribute in node.attributes]
    return "<" + node.name + "".join(told) + end


def attribute_markup(text):
    """The text of an attribute as it stands in quotation marks."""
    text = text.replace("&", "&amp;").replace("<", "&lt;").replace('"', "&quot;")
    return text.replace("\t", "&#9;").replace("\n", "&#10;")


def text_markup(node, cdata_names):
    """A text as it is written."""
    if node.parent.kind == "element" and node.parent.name in cdata_names:
        return "<![CDATA[" + node.text.replace("]]>", "]]]]><![CDATA[>") + "]]>"
    return node.text.replace("&", "&amp;").replace("<", "&lt;").replace(">", "&gt;")


def instruction_markup(node):
    """An instruction as it is written."""
    if node.text == "":
        return f"<?{node.name}?>"
    return f"<?{node.name} {node.text}?>"
