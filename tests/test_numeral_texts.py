"""Numerals as texts [7]."""

import itertools
import re
import unittest

from risingread.errors import NoNumeral, NoText
from risingread.numerals import Numeral
from tests.helper import Case, anything
from tests.test_numerals import all_of

NUMBER = re.compile("0|[1-9][0-9]{0,2}", re.ASCII)


def is_form(text):
    """Whether the text has the form, told by its parts."""
    parts = [part.split(".") for part in text.split("/")]
    if len(parts) != 2 or len(parts[0]) != len(parts[1]) or len(parts[0]) > 4:
        return False
    return all(NUMBER.fullmatch(number) for part in parts for number in part)


# Each text that has the form begins with a head that some of these tails complete.
TAILS = [first + rest for first in ("", "1") for rest in (
    "", "/1", "/1.1", "/1.1.1", "/1.1.1.1", ".1", ".1.1", ".1.1.1")]


def can_begin(head):
    """Whether some text of the form begins with this head."""
    return any(is_form(head + tail) for tail in TAILS)


def begun(text):
    """How many leading characters a text of the form begins with."""
    return max(at for at in range(len(text) + 1) if can_begin(text[:at]))


class TestReading(Case):

    def test_what_is_shown_is_read(self):
        for bases in ((2,), (3, 2), (2, 3, 4), (2, 3, 2, 2)):
            for n in all_of(bases):
                self.assertEqual(Numeral.read(str(n)), n)
        for text in ("1.0.9/2.10.10", "0/2", "99.99.99.99/100.100.100.100", "10.20/11.100"):
            self.assert_same(str(Numeral.read(text)), text)

    def test_what_is_shown(self):
        self.assert_same(str(Numeral([1, 0, 9], [2, 10, 10])), "1.0.9/2.10.10")
        self.assert_same(str(Numeral((0,), (2,))), "0/2")

    def test_each_sign_left_out_put_in_doubled_or_exchanged(self):
        for text in ("1.0.9/2.10.10", "0/2", "7.10/12.100", "1.2.3.4/5.6.7.8", "12.0/100.30"):
            for at in range(len(text) + 1):
                self.assert_told(text[:at])
                self.assert_told(text[:at] + text[at + 1:])
                self.assert_told(text[:at] + text[at:at + 1] + text[at:])
                for sign in "0159./-+ _x\n,":
                    self.assert_told(text[:at] + sign + text[at:])
                    self.assert_told(text[:at] + sign + text[at + 1:])

    def test_all_short_texts(self):
        for many in range(6):
            for signs in itertools.product("01./", repeat=many):
                self.assert_told("".join(signs))

    def assert_told(self, text):
        """Assert that the text is read, or that the error is the right one."""
        if not is_form(text):
            self.assert_raises(NoText, [begun(text)], Numeral.read, text)
            return
        digits, bases = [[int(number) for number in part.split(".")] for part in text.split("/")]
        if Numeral.is_numeral(digits, bases):
            self.assertEqual(Numeral.read(text), Numeral(digits, bases))
        else:
            with self.assertRaises(NoNumeral) as caught:
                Numeral(digits, bases)
            self.assert_raises(NoNumeral, [caught.exception.at], Numeral.read, text)

    def test_where_it_goes_wrong(self):
        cases = {
            "": 0, "x": 0, "/2": 0, ".": 0, "-1/2": 0, "+1/2": 0, " 1/2": 0, "1": 1, "1.": 2, "1..0/2.2": 2,
            "01/2": 1, "00/2": 1, "1/02": 3, "1/2 ": 3, "1/2\n": 3, "1 /2": 1, "1/": 2, "1//2": 2, "1/2/3": 3,
            "1/2.": 3, "1/2.2": 3, "1.0/2.2.2": 7, "1.0/2.2.": 7, "1.1/2": 5, "1.1/2.": 6, "1.1/2/": 5,
            "1.0.9/2.10": 10, "1.0.9/2.10.": 11, "1.0.9.1.": 7, "1.1.1.1.1/2.2.2.2.2": 7, "1.1.1.1": 7,
            "1.1.1.1/2.2.2.2.2": 15, "1000/2": 3, "1/1000": 5, "1.1000/2.2": 5, "100": 3, "1_0/20": 1,
            "0x1/2": 1, "1.0/2,2": 5, "\u0661/2": 0, "1\u0660/20": 1, "\u00b2/3": 0, "1/\uff12": 2,
        }
        for text, at in cases.items():
            self.assert_raises(NoText, [at], Numeral.read, text)

    def test_what_is_no_text(self):
        for thing in anything():
            if not isinstance(thing, str):
                self.assert_raises(NoText, [0], Numeral.read, thing)

    def test_then_what_is_no_numeral(self):
        cases = {
            "0/0": None, "0/1": None, "0/101": None, "0/999": None, "1.2/3.1": None, "5.5/101.2": None,
            "2/2": 0, "999/100": 0, "1.10/2.10": 1, "2.10/2.10": 0, "1.0.10/2.10.10": 2, "1.2.3.9/2.3.4.9": 3,
        }
        for text, at in cases.items():
            self.assert_raises(NoNumeral, [at], Numeral.read, text)


if __name__ == "__main__":
    unittest.main()
