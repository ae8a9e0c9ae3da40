"""Stylesheets with all instructions, drawn with a source of choices."""

PATHS = ["*", "@*", ".", "..", "/", "//a", "b", "node()", "text()", "a | b", "*[1]", "*[@k]", "//@k", "key('k', '1')", "$g", "$v", "count(*)", "position()", "last()", "name()", "string(@k)", "'x'", "1 + 1",
         "@k = 1", "not(*)", "//*[@k = current()/@k]", "document('d')//*", "document('')/*", "generate-id()", "sum(//@k)", "$p", "id('1')", "preceding-sibling::*", "ancestor::*", "current()", "concat(@k, '-')", "$f"]
LISTS = ["*", "@* | node()", "node()", "//a", "b | text()", "*[@k]", "..", "//@k", "document('d')/*", "key('k', @k)", "following-sibling::*", "."]
MATCHES = ["a", "b", "*", "@k", "text()", "node()", "/", "a/b", "a//b", "//c", "*[@k]", "b[1]", "c[last()]", "a | @id", "comment()", "processing-instruction()", "key('k', '1')", "id('x')", "a[b]", "@*", "*[position() = 2]"]
NAMES = ["x", "y", "z:w", "{name()}", "n{1 + 1}", "{@k}"]


class SheetDrawer:
    def __init__(self, choices):
        self.choices = choices

    def path(self):
        return self.choices.choice(PATHS)

    def body(self, depth):
        return "".join(self.instruction(depth) for _ in range(self.choices.randrange(0, 4 if depth > 0 else 2)))

    def template(self):
        pick = self.choices.choice
        return pick(["", "q", "{" + self.path() + "}", "a{" + self.path() + "}b"]).replace("<", "&lt;")

    def instruction(self, depth):
        pick = self.choices.choice
        sorts = ["text", "value", "value", "element", "literal", "literal", "literal", "apply", "apply", "copy-of", "comment", "instruction", "attribute", "attribute"]
        if depth > 0:
            sorts += ["if", "choose", "each", "copy", "variable", "message", "call", "imports", "literal", "each"]
        sort = pick(sorts)
        inner = self.body(depth - 1)
        return getattr(self, "make_" + sort.replace("-", "_"))(inner)

    def make_text(self, inner):
        return self.choices.choice(["t", " u ", "<xsl:text> </xsl:text>", "<xsl:text/>", "&lt;"])

    def make_value(self, inner):
        return f'<xsl:value-of select="{self.path()}"/>'

    def make_copy_of(self, inner):
        return f'<xsl:copy-of select="{self.path()}"/>'

    def make_element(self, inner):
        used = self.choices.choice(["", "", ' use-attribute-sets="s"'])
        return f'<xsl:element name="{self.choices.choice(NAMES)}"{used}>{inner}</xsl:element>'

    def make_literal(self, inner):
        told = "".join(f' {name}="{self.template()}"' for name in ("k", "l") if self.choices.random() < 0.3)
        used = self.choices.choice(["", "", "", ' xsl:use-attribute-sets="s t"'])
        name = self.choices.choice("xyz")
        return f"<{name}{told}{used}>{inner}</{name}>"

    def make_apply(self, inner):
        pick = self.choices.choice
        told = pick(["", f' select="{pick(LISTS)}"']) + pick(["", "", ' mode="m"'])
        more = pick(["", "", f'<xsl:with-param name="p" select="{self.path()}"/>', '<xsl:with-param name="p">w</xsl:with-param>', '<xsl:sort select="@k"/>', '<xsl:sort select="." order="descending" data-type="number"/>'])
        return f"<xsl:apply-templates{told}>{more}</xsl:apply-templates>"

    def make_comment(self, inner):
        return f"<xsl:comment>{inner}</xsl:comment>"

    def make_instruction(self, inner):
        return f'<xsl:processing-instruction name="p">{inner}</xsl:processing-instruction>'

    def make_attribute(self, inner):
        return f'<xsl:attribute name="{self.choices.choice(NAMES)}">{inner}</xsl:attribute>'

    def make_if(self, inner):
        return f'<xsl:if test="{self.path()}">{inner}</xsl:if>'

    def make_choose(self, inner):
        return f'<xsl:choose><xsl:when test="{self.path()}">{inner}</xsl:when><xsl:otherwise>o</xsl:otherwise></xsl:choose>'

    def make_each(self, inner):
        more = self.choices.choice(["", "", '<xsl:sort select="@k" order="descending"/>'])
        return f'<xsl:for-each select="{self.choices.choice(LISTS)}">{more}{inner}</xsl:for-each>'

    def make_copy(self, inner):
        return f"<xsl:copy>{inner}</xsl:copy>"

    def make_variable(self, inner):
        value = self.choices.choice([f' select="{self.path()}"/>', f">{inner}</xsl:variable>"])
        return f'<xsl:if test="1"><xsl:variable name="v"{value}<xsl:value-of select="$v"/><xsl:copy-of select="$v"/></xsl:if>'

    def make_message(self, inner):
        return f"<xsl:message>{inner}</xsl:message>"

    def make_call(self, inner):
        return '<xsl:call-template name="t"><xsl:with-param name="p" select="@k"/></xsl:call-template>'

    def make_imports(self, inner):
        return "<xsl:apply-imports/>"

    def rules(self, most):
        pick = self.choices.choice
        found = ""
        for _ in range(self.choices.randrange(1, most)):
            told = pick(["", "", ' mode="m"']) + pick(["", "", ' priority="1"'])
            found += f'<xsl:template match="{pick(MATCHES)}"{told}><xsl:param name="p" select="0"/>{self.body(2)}</xsl:template>'
        return found

    def sheet(self):
        """The texts of a main module and of one that it imports."""
        tops = ('<xsl:key name="k" match="*" use="@k"/><xsl:variable name="g" select="//*"/><xsl:param name="v" select="\'pv\'"/><xsl:variable name="f"><f i="1">F<g/></f></xsl:variable>'
                '<xsl:param name="p"/><xsl:attribute-set name="s"><xsl:attribute name="sa">1</xsl:attribute></xsl:attribute-set><xsl:attribute-set name="t" use-attribute-sets="s">'
                '<xsl:attribute name="tb"><xsl:value-of select="name()"/></xsl:attribute></xsl:attribute-set>'
                f'<xsl:template name="t"><xsl:param name="p"/>{self.body(1)}</xsl:template>')
        head = '<xsl:stylesheet version="1.0">'
        return head + '<xsl:import href="i"/>' + tops + self.rules(6) + "</xsl:stylesheet>", head + self.rules(4) + "</xsl:stylesheet>"
