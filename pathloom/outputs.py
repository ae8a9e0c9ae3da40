"""Results as texts."""

from pathloom.markup import markup_of


class Output:
    """The settings of all output elements of a stylesheet: those that count, and all names of CDATA elements."""

    def __init__(self, parts):
        self.settings = {}
        self.cdata_names = {}
        ranked = [(module.precedence, at) for at, (_, module) in enumerate(parts)]
        for _, at in sorted(ranked):
            piece = parts[at][0]
            if piece.is_word("output"):
                for name in ("method", "omit-xml-declaration", "standalone"):
                    if name in piece.meant:
                        self.settings[name] = piece.meant[name]
                for name in piece.meant.get("cdata-section-elements", []):
                    self.cdata_names[name] = True

    def text_of_result(self, root):
        """The text of a result."""
        if self.settings.get("method") == "text":
            return root.string()
        return self.declaration_text() + markup_of(root.children, self.cdata_names)

    def declaration_text(self):
        """The declaration of a result, the empty text if it is left out."""
        if self.settings.get("omit-xml-declaration") == "yes":
            return ""
        told = self.settings.get("standalone")
        standalone = f' standalone="{told}"' if told is not None else ""
        return f'<?xml version="1.0"{standalone}?>\n'
