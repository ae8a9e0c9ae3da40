"""The smallest parts of documents, read one behind the other."""

from pathloom.errors import NotDocument
from pathloom.signs import begins_word, goes_on_in_word, is_blank, leads_to_sign, referred_sign

NAMED_SIGNS = {"lt;": "<", "gt;": ">", "amp;": "&", "quot;": '"', "apos;": "'"}
DECIMAL = "0123456789"
HEXADECIMAL = "0123456789abcdef"


class Scanner:
    """A text of signs, and the index `at` that reading has come to.

    A method that reads a part raises NotDocument at the first sign with which
    no such part goes on. At the end of the text, each part could still go on.
    """

    def __init__(self, text):
        self.text = text
        self.at = 0

    def peek(self):
        """The next sign, the empty text at the end."""
        return self.text[self.at:self.at + 1]

    def is_done(self):
        """Whether all signs were read."""
        return self.at == len(self.text)

    def expect(self, word):
        """Read a text that must stand here."""
        for sign in word:
            if self.peek() != sign:
                raise NotDocument(self.at)
            self.at += 1

    def read_one_of(self, words):
        """Read and return the one of some words that stands here; none of them begins another."""
        start = self.at
        while not self.is_done():
            piece = self.text[start:self.at + 1]
            if not [word for word in words if word.startswith(piece)]:
                break
            self.at += 1
            if piece in words:
                return piece
        raise NotDocument(self.at)

    def read_up_to(self, end):
        """Read as far as the first place of a text, and this; return what is ahead of it."""
        found = self.text.find(end, self.at)
        if found < 0:
            raise NotDocument(len(self.text))
        ahead = self.text[self.at:found]
        self.at = found + len(end)
        return ahead

    def read_blanks(self):
        """Read any number of blanks; return whether there was one."""
        start = self.at
        while is_blank(self.peek()):
            self.at += 1
        return self.at > start

    def read_name(self):
        """Read and return a name."""
        start = self.at
        self.read_word()
        if self.peek() == ":":
            self.at += 1
            self.read_word()
        return self.text[start:self.at]

    def read_word(self):
        """Read a word."""
        if not begins_word(self.peek()):
            raise NotDocument(self.at)
        while goes_on_in_word(self.peek()):
            self.at += 1

    def read_plain(self):
        """Read and return the signs of a content as far as the next one that begins another part."""
        end = self.at
        while end < len(self.text) and self.text[end] not in ("<", "&"):
            end += 1
        wrong = self.text.find("]]>", self.at, end)
        if wrong >= 0:
            raise NotDocument(wrong + 2)
        signs = self.text[self.at:end]
        self.at = end
        return signs

    def read_reference(self):
        """Read a reference; return the sign that it stands for."""
        self.expect("&")
        if self.peek() == "#":
            return self.read_numbered_reference()
        return NAMED_SIGNS[self.read_one_of(list(NAMED_SIGNS))]

    def read_numbered_reference(self):
        """Read the rest of a reference by a number."""
        self.expect("#")
        digits = DECIMAL
        if self.peek() == "x":
            self.at += 1
            digits = HEXADECIMAL
        number = self.read_digit(0, digits)
        while self.peek() != ";":
            number = self.read_digit(number, digits)
        sign = referred_sign(number)
        if sign == "":
            raise NotDocument(self.at)
        self.at += 1
        return sign

    def read_digit(self, number, digits):
        """Read one digit behind those of a number; return the number of them all."""
        sign = self.peek().lower()
        if sign == "" or sign not in digits:
            raise NotDocument(self.at)
        number = number * len(digits) + digits.find(sign)
        if not leads_to_sign(number, len(digits)):
            raise NotDocument(self.at)
        self.at += 1
        return number

    def read_attribute_text(self):
        """Read a text in quotation marks; return what it stands for."""
        quote = self.read_one_of(('"', "'"))
        pieces = []
        while self.peek() != quote:
            sign = self.peek()
            if sign in ("", "<"):
                raise NotDocument(self.at)
            if sign == "&":
                pieces.append(self.read_reference())
            else:
                pieces.append(" " if is_blank(sign) else sign)
                self.at += 1
        self.at += 1
        return "".join(pieces)
