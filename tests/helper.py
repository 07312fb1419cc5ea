"""What several tests need."""

import unittest


def anything():
    """Values of all kinds that may be passed where a value of one kind should be."""
    return [
        0, 1, -1, 7, 100, 10 ** 40, -10 ** 40, True, False, None, "", "n", "2", "strict", "1/2",
        [], [2], [True], ["n", 0], [[2], [3]], (), (2,), (None,), ("n", 0), ("n", False), ((2, 3),),
        {}, {"n": "m"}, {0: 2, 1: 3}, [{}], ({"n": [0]},),
    ]


def exact(thing):
    """The value with the kinds of all that is in it: unlike ==, this parts 1 from True."""
    return repr(thing)


class Case(unittest.TestCase):
    """A test case that also asks for the fields of an error."""

    def assert_raises(self, error, fields, call, *passed):
        """Assert that the call raises just this error, with these fields in this order."""
        with self.assertRaises(error) as caught:
            call(*passed)
        self.assertIs(caught.exception.__class__, error)
        self.assertEqual(exact(list(vars(caught.exception).values())), exact(list(fields)))

    def assert_same(self, one, other):
        """Assert that two values are equal, and of equal kinds throughout."""
        self.assertEqual(one, other)
        self.assertEqual(exact(one), exact(other))

    def assert_stays(self, call, *passed):
        """Assert that the call changes nothing passed, and gives the same answer as a new list again."""
        before = exact(passed)
        first = call(*passed)
        second = call(*passed)
        self.assert_same(first, second)
        self.assertEqual(exact(passed), before)
        if isinstance(first, list):
            self.assertIsNot(first, second)
            first.append("more")
            self.assert_same(call(*passed), second)
