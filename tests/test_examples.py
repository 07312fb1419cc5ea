"""The examples of the document's interface, word for word."""

import unittest

from risingread import errors
from risingread.bases import first_fall, turned_versions
from risingread.numerals import Numeral, carry, numerals_from
from risingread.schemes import Scheme
from tests.helper import Case

NUMERALS = """
>>> n = Numeral((1, 0, 9), (2, 10, 10))
>>> [n.value, str(n + 1), carry(n), str(~n), str(-n)]
[109, '1.1.0/2.10.10', [2, 1], '0.9.0/2.10.10', '1.0.1/2.10.10']
>>> m = Numeral([0, 1, 2], (2, 10, 10))
>>> [str(m << 1), str(n ^ m), str(n // 2), n.changed(m), n.first_change(m), m < n]
['1.2.0/2.10.10', '1.1.1/2.10.10', '0.5.4/2.10.10', [0, 1, 2], 0, True]
>>> n << 1
raises Overflow(109)
>>> 3 * Numeral.of(40, (10, 10))
raises Overflow(120)
>>> Numeral.read("1.0.9/2.10")
raises NoText(10)
>>> Numeral.read("1.0.10/2.10.10")
raises NoNumeral(2)
>>> [str(x) for x in numerals_from(Numeral.of(9, (3, 10)), Numeral.of(11, (3, 10)))]
['0.9/3.10', '1.0/3.10', '1.1/3.10']
>>> first_fall("strict", [(0, 9), (1, 0), (1, 0)])
2
>>> turned_versions([(0, 9), (1, 0)], (2, 10))
[(0, 9), (1, 0)]
"""

SCHEMES = """
>>> Scheme([("n", 2, "strict")], [("n", 0)])
raises NoScheme("cells", None)
"""

KNOWN = {
    "Numeral": Numeral, "Scheme": Scheme, "carry": carry, "first_fall": first_fall,
    "numerals_from": numerals_from, "turned_versions": turned_versions,
}


class TestExamples(Case):

    def test_numerals(self):
        self.assert_examples(NUMERALS, 11)

    def test_schemes(self):
        self.assert_examples(SCHEMES, 1)

    def assert_examples(self, text, many):
        """Assert that each call tells what is written below it, and that there are so many lines of calls."""
        names = dict(KNOWN)
        parts = [part.strip().split("\n") for part in text.split(">>> ")[1:]]
        for part in parts:
            with self.subTest(part[0]):
                self.do(part, names)
        self.assertEqual(len(parts), many)

    def do(self, part, names):
        """Do one line with what is told below it, if anything."""
        if len(part) == 1:
            exec(part[0], names)
        elif part[1].startswith("raises "):
            wanted = eval(part[1][len("raises "):], dict(vars(errors)))
            fields = list(vars(wanted).values())
            self.assert_raises(wanted.__class__, fields, eval, part[0], names)
        else:
            self.assertEqual(repr(eval(part[0], names)), part[1])


if __name__ == "__main__":
    unittest.main()
