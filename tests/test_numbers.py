"""[3.1] to [3.3]: numbers, their texts, and operations on them, compared with exact fractions."""

import random
import unittest
from fractions import Fraction

from pathloom import decimals
from pathloom.contexts import World, start_context
from pathloom.documents import read
from pathloom.evaluating import value_of
from pathloom.paths import tree_of
from pathloom.values import to_text

ROOT = read("<r/>").root
INF, NAN = "Infinity", "NaN"


def value(text, variables=None):
    """The value of a path at the root of a small document, as a text."""
    context = start_context(ROOT, World())
    context.variables = variables or {}
    return to_text(value_of(tree_of(text), context))


def rounded(fraction):
    """The text of the number next to a fraction."""
    size = abs(fraction) * 10 ** 9
    whole = int(size)
    if size - whole >= Fraction(1, 2):
        whole += 1
    front, behind = divmod(whole, 10 ** 9)
    text = str(front) + ("." + str(behind).rjust(9, "0")).rstrip("0").rstrip(".")
    return "-" + text if fraction < 0 and whole else text


class Texts(unittest.TestCase):
    def test_numbers_of_texts(self):
        told = {"1": "1", " 1\t\n": "1", "-1": "-1", "1.": "1", ".5": "0.5", "-.5": "-0.5", "007": "7", "1.50": "1.5",
                "-0": "0", "-0.0": "0", "0.0000000001": "0", "-0.0000000001": "0", "0.0000000005": "0.000000001",
                "-0.0000000005": "-0.000000001", "0.00000000049999": "0", "0.9999999995": "1",
                "1.0000000004999": "1", "9" * 60: "9" * 60, "0" * 5000 + "1": "1", "-" + "1" * 60: "-" + "1" * 60}
        for text, number in told.items():
            self.assertEqual(decimals.text_of_number(decimals.number_of_text(text)), number, text)

    def test_texts_without_a_number(self):
        for text in ("", " ", "a", "1e3", "+1", "- 1", "--1", "Infinity", "-Infinity", "NaN", ".", "-", "-.", "1.2.3",
                     "1 2", "1,2", "0x1", "1_0", "\u0661", "1\u00a0", "\r1", "\x0b1", "1a", "1-", "true", "1..", "..1"):
            self.assertEqual(decimals.number_of_text(text), NAN, text)

    def test_many_texts(self):
        choices = random.Random(10)
        for _ in range(3000):
            front = "".join(choices.choice("0123456789") for _ in range(choices.randrange(1, 30)))
            behind = "".join(choices.choice("0012345678999") for _ in range(choices.randrange(0, 30)))
            text = choices.choice(["", "-"]) + front + "." + behind
            number = decimals.number_of_text(choices.choice(["", " \n"]) + text)
            self.assertEqual(decimals.text_of_number(number), rounded(Fraction(text)))
            again = decimals.number_of_text(decimals.text_of_number(number))
            self.assertEqual(again, number)


class Operations(unittest.TestCase):
    def test_told(self):
        told = {"0.1 + 0.2 = 0.3": "true", "1 div 3 * 3": "0.999999999", "5 mod -2": "1", "-5 mod 2": "-1",
                "1.5 mod 0.4": "0.3", "-5 mod -2": "-1", "2 div 3": "0.666666667", "-2 div 3": "-0.666666667",
                "0.00001 * 0.00005": "0.000000001", "0.00001 * -0.00005": "-0.000000001",
                "0.00001 * 0.00004": "0", "-1 * 0": "0", "-0": "0", "0 div -5": "0", "1 - 1": "0", "-(1)": "-1",
                "3 mod 1.5": "0", "-3 mod 1.5": "0", "1 div 0": INF, "-1 div 0": "-" + INF, "0 div 0": NAN,
                "1 mod 0": NAN, "'x' + 1": NAN, "true() + 1": "2", "'3' * '4'": "12", "-'x'": NAN,
                "--1": "1", "1 + 2 - 3 * 4 div 5 mod 6": "0.6"}
        for text, number in told.items():
            self.assertEqual(value(text), number, text)

    def test_infinite_and_none(self):
        names = {"p": INF, "m": "-" + INF, "n": NAN, "z": 0, "a": 2 * 10 ** 9, "b": -3 * 10 ** 9}
        variables = {name: ("number", number) for name, number in names.items()}
        told = {
            "p + m": NAN, "m + p": NAN, "p + p": INF, "m + m": "-" + INF, "p + a": INF, "b + m": "-" + INF,
            "p - p": NAN, "m - m": NAN, "p - m": INF, "m - p": "-" + INF, "a - p": "-" + INF, "a - m": INF,
            "p * z": NAN, "z * m": NAN, "p * a": INF, "p * b": "-" + INF, "m * b": INF, "a * m": "-" + INF, "p * m": "-" + INF,
            "m * m": INF, "p div p": NAN, "p div m": NAN, "m div p": NAN, "a div p": "0", "b div m": "0", "z div p": "0",
            "p div a": INF, "p div b": "-" + INF, "m div b": INF, "m div a": "-" + INF, "p div z": INF, "m div z": "-" + INF,
            "z div z": NAN, "p mod a": NAN, "m mod p": NAN, "a mod p": "2", "b mod p": "-3", "b mod m": "-3",
            "z mod p": "0", "p mod z": NAN, "z mod z": NAN, "z mod a": "0",
        }
        for text, number in told.items():
            one, word, other = text.split()
            self.assertEqual(value(f"${one} {word} ${other}", variables), number, text)
        for word in "+ - * div mod".split():
            for name in names:
                self.assertEqual(value(f"$n {word} ${name}", variables), NAN)
                self.assertEqual(value(f"${name} {word} $n", variables), NAN)
        self.assertEqual([value(f"-${name}", variables) for name in "pmnz"], ["-" + INF, INF, NAN, "0"])

    def test_many(self):
        choices = random.Random(11)
        for _ in range(4000):
            one, other = [Fraction(choices.randrange(-10 ** choices.choice([2, 10, 30]), 10 ** 12),
                                   10 ** choices.choice([0, 2, 9])) for _ in range(2)]
            texts = [rounded(number) for number in (one, other)]
            self.assertEqual(value(f"{texts[0]} + {texts[1]}"), rounded(one + other))
            self.assertEqual(value(f"{texts[0]} - {texts[1]}"), rounded(one - other))
            self.assertEqual(value(f"{texts[0]} * {texts[1]}"), rounded(one * other))
            if other:
                self.assertEqual(value(f"{texts[0]} div {texts[1]}"), rounded(one / other))
                rest = abs(one) % abs(other)
                self.assertEqual(value(f"{texts[0]} mod {texts[1]}"), rounded(-rest if one < 0 else rest))
            self.assertEqual(value(f"{texts[0]} < {texts[1]}"), "true" if one < other else "false")

    def test_rounding_functions(self):
        told = {"1.5": "1 2 2", "-1.5": "-2 -1 -1", "2.5": "2 3 3", "-2.5": "-3 -2 -2", "0.4": "0 1 0", "-0.5": "-1 0 0",
                "-0.500000001": "-1 0 -1", "3": "3 3 3", "0.499999999": "0 1 0", "1 div 0": f"{INF} {INF} {INF}",
                "-1 div 0": f"-{INF} -{INF} -{INF}", "0 div 0": f"{NAN} {NAN} {NAN}"}
        for text, numbers in told.items():
            shown = [value(f"{word}({text})") for word in ("floor", "ceiling", "round")]
            self.assertEqual(" ".join(shown), numbers, text)


if __name__ == "__main__":
    unittest.main()
