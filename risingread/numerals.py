"""Numerals: digits with a base for each place."""

from risingread.bases import count_of, is_bases, weights
from risingread.checks import FIGURES, is_sequence, is_whole
from risingread.errors import NoDivisor, NoNumeral, NoPlace, NoText, Overflow, Unlike

MOST_FIGURES = 3


class Numeral:
    """One digit for each place, each less than the base of its place."""

    LIMIT = 100
    PLACES = 4

    def __init__(self, digits, bases):
        if not _is_as_long(digits, bases):
            raise NoNumeral(None)
        wrong = _first_wrong(digits, bases)
        if wrong is not None:
            raise NoNumeral(wrong)
        self.digits = tuple(digits)
        self.bases = tuple(bases)
        self.value = sum([digit * weight for digit, weight in zip(digits, weights(bases))])

    @staticmethod
    def is_numeral(digits, bases):
        """Tell whether these are the digits and bases of a numeral."""
        return _is_as_long(digits, bases) and _first_wrong(digits, bases) is None

    @classmethod
    def of(cls, value, bases):
        """Return the numeral of this value."""
        return cls(_digits_of(value, bases), bases)

    @classmethod
    def read(cls, text):
        """Return the numeral that str writes in this way."""
        if not isinstance(text, str):
            raise NoText(0)
        digits, at = _read_numbers(text, 0, cls.PLACES)
        if text[at:at + 1] != "/":
            raise NoText(at)
        bases, at = _read_numbers(text, at + 1, len(digits))
        if len(bases) < len(digits) or at < len(text):
            raise NoText(at)
        return cls(digits, bases)

    def _with_value(self, value):
        """Return the numeral of this value with the same bases."""
        return Numeral(_digits_of(value, self.bases), self.bases)

    def changed(self, m):
        """Return the list of the places at which the two differ, ascending."""
        _check_like(self, m)
        return [place for place, digit in enumerate(self.digits) if digit != m.digits[place]]

    def first_change(self, m):
        """Return the first place at which the two differ, or None."""
        places = self.changed(m)
        return places[0] if places else None

    def __eq__(self, other):
        if not isinstance(other, Numeral):
            return NotImplemented
        return (self.bases, self.value) == (other.bases, other.value)

    def __lt__(self, other):
        if not isinstance(other, Numeral):
            return NotImplemented
        return (self.bases, self.value) < (other.bases, other.value)

    def __le__(self, other):
        if not isinstance(other, Numeral):
            return NotImplemented
        return (self.bases, self.value) <= (other.bases, other.value)

    def __gt__(self, other):
        if not isinstance(other, Numeral):
            return NotImplemented
        return (self.bases, self.value) > (other.bases, other.value)

    def __ge__(self, other):
        if not isinstance(other, Numeral):
            return NotImplemented
        return (self.bases, self.value) >= (other.bases, other.value)

    def __add__(self, other):
        amount = _amount_of(other, self)
        if amount is None:
            return NotImplemented
        return self._with_value(self.value + amount)

    def __radd__(self, other):
        if not is_whole(other):
            return NotImplemented
        return self._with_value(other + self.value)

    def __sub__(self, other):
        amount = _amount_of(other, self)
        if amount is None:
            return NotImplemented
        return self._with_value(self.value - amount)

    def __rsub__(self, other):
        if not is_whole(other):
            return NotImplemented
        return self._with_value(other - self.value)

    def __mul__(self, other):
        if not is_whole(other):
            return NotImplemented
        return self._with_value(self.value * other)

    def __rmul__(self, other):
        if not is_whole(other):
            return NotImplemented
        return self._with_value(other * self.value)

    def __pow__(self, other):
        if not is_whole(other):
            return NotImplemented
        power = 1
        for _ in range(other):
            power = power * self.value
        return self._with_value(power)

    def __floordiv__(self, other):
        _check_divisor(other)
        return self._with_value(self.value // other)

    def __mod__(self, other):
        _check_divisor(other)
        return self._with_value(self.value % other)

    def __lshift__(self, other):
        if not is_whole(other):
            return NotImplemented
        return _moved_up(self, other)

    def __rshift__(self, other):
        if not is_whole(other):
            return NotImplemented
        return _moved_up(self, -other)

    def __xor__(self, other):
        if not isinstance(other, Numeral):
            return NotImplemented
        _check_like(self, other)
        digits = [(one + two) % base for one, two, base in zip(self.digits, other.digits, self.bases)]
        return Numeral(digits, self.bases)

    def __neg__(self):
        digits = [(base - digit) % base for digit, base in zip(self.digits, self.bases)]
        return Numeral(digits, self.bases)

    def __invert__(self):
        digits = [base - 1 - digit for digit, base in zip(self.digits, self.bases)]
        return Numeral(digits, self.bases)

    def __bool__(self):
        return bool(self.value != 0)

    def __len__(self):
        return len(self.digits)

    def __getitem__(self, at):
        if not is_whole(at) or not 0 <= at < len(self.digits):
            raise NoPlace(at)
        return self.digits[at]

    def __iter__(self):
        return iter(self.digits)

    def __contains__(self, x):
        return is_whole(x) and x in self.digits

    def __str__(self):
        return f"{_dotted(self.digits)}/{_dotted(self.bases)}"


def _is_as_long(digits, bases):
    """Tell whether these are bases, and a tuple or list of as many items."""
    return is_bases(bases) and is_sequence(digits) and len(digits) == len(bases)


def _first_wrong(digits, bases):
    """Return the first place whose digit is none, or None."""
    for place, digit in enumerate(digits):
        if not is_whole(digit) or not 0 <= digit < bases[place]:
            return place
    return None


def _digits_of(value, bases):
    """Return the list of the digits of the value."""
    many = count_of(bases)
    if not 0 <= value < many:
        raise Overflow(value)
    return [value // weight % base for weight, base in zip(weights(bases), bases)]


def _check_like(one, other):
    """Raise Unlike if the two numerals have unlike bases."""
    if one.bases != other.bases:
        raise Unlike("the numerals have unlike bases")


def _check_divisor(thing):
    """Raise NoDivisor for anything but a whole number from 1 on."""
    if not is_whole(thing) or thing < 1:
        raise NoDivisor("a divisor is a whole number from 1 on")


def _amount_of(thing, numeral):
    """Return how much it adds to the numeral, None if it cannot be added."""
    if is_whole(thing):
        return thing
    if not isinstance(thing, Numeral):
        return None
    _check_like(thing, numeral)
    return thing.value


def _moved_up(numeral, by):
    """Return the numeral with each digit so many places higher; below 0: lower."""
    digits = [0] * len(numeral.digits)
    for place, digit in enumerate(numeral.digits):
        goal = place - by
        if goal < 0:
            if digit != 0:
                raise Overflow(numeral.value)
        elif goal < len(digits):
            if digit >= numeral.bases[goal]:
                raise Overflow(numeral.value)
            digits[goal] = digit
    return Numeral(digits, numeral.bases)


def _dotted(numbers):
    """Return the numbers in decimal figures, with points between."""
    return ".".join([str(number) for number in numbers])


def _end_of_number(text, at):
    """Return where the number that begins at this character ends: there, if none does."""
    # No number has a leading zero, so one that begins with 0 ends behind it.
    if text[at:at + 1] == "0":
        return at + 1
    end = at
    while end < min(len(text), at + MOST_FIGURES) and text[end] in FIGURES:
        end = end + 1
    return end


def _read_numbers(text, at, most):
    """Return a list of numbers that stand from there on, at most so many, and where they end."""
    numbers = []
    while True:
        end = _end_of_number(text, at)
        if end == at:
            raise NoText(at)
        numbers.append(int(text[at:end]))
        if len(numbers) == most or text[end:end + 1] != ".":
            return numbers, end
        at = end + 1


def carry(n):
    """Return the list of the places that change if 1 is added, from the lowest up."""
    return n.changed(n + 1)[::-1]


def numerals_from(low, high):
    """Yield the numerals from the one to the other, ascending."""
    _check_like(low, high)
    for value in range(low.value, high.value + 1):
        yield Numeral.of(value, low.bases)
