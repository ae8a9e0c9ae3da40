"""The smallest parts of documents, read one behind the other."""

from pathloom.errors import NotDocument
from pathloom.signs import BLANKS, begins_word, end_of_run, is_blank, leads_to_sign, referred_sign, words_alone

NAMED_SIGNS = {"lt;": "<", "gt;": ">", "amp;": "&", "quot;": '"', "apos;": "'"}
DECIMAL = "0123456789"
HEXADECIMAL = "0123456789abcdef"


class Scanner:
    """A text of signs, and the index `at` that reading has come to; `words` is the text with its words alone.

    A method that reads a part raises NotDocument at the first sign with which
    no such part goes on. At the end of the text, each part could still go on.
    """

    def __init__(self, text):
        self.text = text
        self.words = words_alone(text)
        self.at = 0

    def peek(self):
        """The next sign, the empty text at the end."""
        return self.text[self.at:self.at + 1]

    def expect(self, word):
        """Read a text that must stand here."""
        if self.text.startswith(word, self.at):
            self.at += len(word)
            return
        for sign in word:
            if self.peek() != sign:
                raise NotDocument(self.at)
            self.at += 1

    def read_one_of(self, words):
        """Read and return the one of some words that stands here; none of them begins another."""
        for word in words:
            if self.text.startswith(word, self.at):
                self.at += len(word)
                return word
        end = self.at
        while end < len(self.text) and [word for word in words if word.startswith(self.text[self.at:end + 1])] != []:
            end += 1
        raise NotDocument(end)

    def read_up_to(self, end):
        """Read as far as the first place of a text, and this; return what is ahead of it."""
        found = self.text.find(end, self.at)
        if found < 0:
            raise NotDocument(len(self.text))
        ahead = self.text[self.at:found]
        self.at = found + len(end)
        return ahead

    def read_blanks(self):
        """Read any number of blanks; return whether there was one."""
        if not is_blank(self.text[self.at:self.at + 1]):
            return False
        self.at += 1
        if is_blank(self.text[self.at:self.at + 1]):
            self.at = end_of_run(self.text, self.at, BLANKS)
        return True

    def read_name(self):
        """Read and return a name."""
        text = self.text
        start = self.at
        if not begins_word(text[start:start + 1]):
            raise NotDocument(start)
        end = self.words.find(" ", start)
        if text[end:end + 1] == ":":
            if end + 1 == len(text) or not begins_word(text[end + 1]):
                raise NotDocument(end + 1)
            end = self.words.find(" ", end + 1)
        self.at = end
        return text[start:end]

    def read_plain(self):
        """Read and return the signs of a content as far as the next one that begins another part."""
        end = self.text.find("<", self.at)
        if end < 0:
            end = len(self.text)
        reference = self.text.find("&", self.at, end)
        if reference >= 0:
            end = reference
        wrong = self.text.find("]]>", self.at, end)
        if wrong >= 0:
            raise NotDocument(wrong + 2)
        signs = self.text[self.at:end]
        self.at = end
        return signs

    def read_reference(self):
        """Read a reference; return the sign that it stands for."""
        self.expect("&")
        if self.peek() == "#":
            return self.read_numbered_reference()
        return NAMED_SIGNS[self.read_one_of(list(NAMED_SIGNS))]

    def read_numbered_reference(self):
        """Read the rest of a reference by a number."""
        self.expect("#")
        digits = DECIMAL
        if self.peek() == "x":
            self.at += 1
            digits = HEXADECIMAL
        number = self.read_digit(0, digits)
        while self.peek() != ";":
            number = self.read_digit(number, digits)
        sign = referred_sign(number)
        if sign == "":
            raise NotDocument(self.at)
        self.at += 1
        return sign

    def read_digit(self, number, digits):
        """Read one digit behind those of a number; return the number of them all."""
        sign = self.peek().lower()
        if sign == "" or sign not in digits:
            raise NotDocument(self.at)
        number = number * len(digits) + digits.find(sign)
        if not leads_to_sign(number, len(digits)):
            raise NotDocument(self.at)
        self.at += 1
        return number

    def read_attribute_text(self):
        """Read the `=` of an attribute and its text in quotation marks; return what this stands for."""
        if self.text.startswith('="', self.at):
            self.at += 1
        else:
            self.read_blanks()
            self.expect("=")
            self.read_blanks()
        quote = self.read_one_of(('"', "'"))
        end = self.text.find(quote, self.at)
        signs = self.text[self.at:end]
        if end >= 0 and "<" not in signs and "&" not in signs:
            self.at = end + 1
            return signs.replace("\t", " ").replace("\n", " ")
        pieces = []
        while self.peek() != quote:
            sign = self.peek()
            if sign in ("", "<"):
                raise NotDocument(self.at)
            if sign == "&":
                pieces.append(self.read_reference())
            else:
                pieces.append(" " if is_blank(sign) else sign)
                self.at += 1
        self.at += 1
        return "".join(pieces)
