"""The errors of the package: one class for each kind of failure.

An error with fields is made with them in order, and keeps each of them as an
attribute. One without fields is made with a text.
"""


class RisingError(ValueError):
    """The base of all errors of the package."""


class NoNumeral(RisingError):
    """Bases and digits that make no numeral."""

    def __init__(self, at):
        self.at = at


class NoPlace(RisingError):
    """What is no place of a number."""

    def __init__(self, place):
        self.place = place


class Overflow(RisingError):
    """A value that is below 0 or too great for the bases."""

    def __init__(self, value):
        self.value = value


class Unlike(RisingError):
    """Two things that should be alike and are not."""


class NoDivisor(RisingError):
    """What is no whole number from 1 on, and should divide."""


class NoText(RisingError):
    """A text that is no numeral's."""

    def __init__(self, at):
        self.at = at


class NoOrder(RisingError):
    """What is no order of cells or looks."""


class TooMany(RisingError):
    """More cells or looks than can be gone through."""

    def __init__(self, most):
        self.most = most


class NoScheme(RisingError):
    """Numbers or cells that make no scheme."""

    def __init__(self, part, at):
        self.part = part
        self.at = at


class NoPlan(RisingError):
    """Looks or tests that make no plan."""

    def __init__(self, part, at):
        self.part = part
        self.at = at


class NoPromise(RisingError):
    """What is no promise of a plan."""

    def __init__(self, promise):
        self.promise = promise


class NoName(RisingError):
    """What is no number's name."""

    def __init__(self, name):
        self.name = name


class NoLook(RisingError):
    """What is no look of a plan."""


class NoBases(RisingError):
    """Bases that do not fit a number."""

    def __init__(self, name):
        self.name = name


class NoVersion(RisingError):
    """Digits that do not fit a number."""

    def __init__(self, name):
        self.name = name


class Fallen(RisingError):
    """A number that does not rise as it must."""

    def __init__(self, name, place):
        self.name = name
        self.place = place


class Busy(RisingError):
    """A version is being written."""


class Idle(RisingError):
    """No version is being written."""


class Held(RisingError):
    """The board is held."""


class NoCells(RisingError):
    """What are no cells of a number, one for each place."""


class NoCell(RisingError):
    """What is no cell."""


class BadRun(RisingError):
    """Versions or events that make no run."""

    def __init__(self, part, at):
        self.part = part
        self.at = at


class Spent(RisingError):
    """All looks of the attempt are made."""


class Unheard(RisingError):
    """Looks of the attempt are not made yet."""

    def __init__(self, missing):
        self.missing = missing


class NoReading(RisingError):
    """What is no reading of a plan."""

    def __init__(self, reading):
        self.reading = reading


class NotPattern(RisingError):
    """What is no pattern of a plan."""


class NotSeen(RisingError):
    """Versions that two looks cannot have seen."""

    def __init__(self, one, other):
        self.one = one
        self.other = other


class NotMoments(RisingError):
    """Moments that make no weaving."""

    def __init__(self, at):
        self.at = at


class NotEvents(RisingError):
    """Events that make no weaving."""

    def __init__(self, at):
        self.at = at


class NoRight(RisingError):
    """There is no right row."""

    def __init__(self, at):
        self.at = at


class NotForced(RisingError):
    """A fact that is not forced."""

    def __init__(self, place, x, y):
        self.place = place
        self.x = x
        self.y = y


class BadStep(RisingError):
    """A step that does not follow from earlier ones."""

    def __init__(self, at):
        self.at = at


class NoMark(RisingError):
    """What is no mark, or no modulus of one."""

    def __init__(self, name):
        self.name = name


class BadText(RisingError):
    """A word that cannot stand where it stands."""

    def __init__(self, line, word):
        self.line = line
        self.word = word


class NoLine(RisingError):
    """What is no line of the desk."""
