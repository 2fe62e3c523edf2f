"""The errors of the package, each with what was wrong in its attributes."""


class NoPerson(LookupError):
    """A number is not one of the people."""

    def __init__(self, person):
        LookupError.__init__(self, f"there is no person {person}")
        self.person = person


class NoNumber(LookupError):
    """Nothing has this number."""

    def __init__(self, number):
        LookupError.__init__(self, f"nothing has the number {number}")
        self.number = number


class NoDeed(LookupError):
    """There are not so many deeds."""

    def __init__(self, many):
        LookupError.__init__(self, f"there is no state after {many} deeds")
        self.many = many


class OtherSize(ValueError):
    """The second of two arguments has another number of people than the first."""

    def __init__(self, size):
        ValueError.__init__(self, f"the second one has another number of people: {size}")
        self.size = size


class NotResult(ValueError):
    """A lower pair is no couple of the pairing."""

    def __init__(self, pair):
        ValueError.__init__(self, f"not a result: {pair} is no couple")
        # A list is copied into a tuple, so that a later change of it has no effect here.
        self.pair = tuple(pair) if isinstance(pair, list) else pair


class NotShortest(ValueError):
    """A word is not one of the shortest."""

    def __init__(self):
        ValueError.__init__(self, "not one of the shortest words")


class NoWord(ValueError):
    """No word has such a sheet."""

    def __init__(self):
        ValueError.__init__(self, "there is no such word")


class BadDeed(ValueError):
    """An item is not a deed."""

    def __init__(self, at):
        ValueError.__init__(self, f"item {at} is not a deed")
        self.at = at


class BadText(ValueError):
    """A word of a text is wrong."""

    def __init__(self, at):
        ValueError.__init__(self, f"word {at} of the text is wrong")
        self.at = at


class BadLine(ValueError):
    """A line has none of the forms of a line."""

    def __init__(self, at):
        ValueError.__init__(self, f"line {at} is wrong")
        self.at = at


class NotSettled(RuntimeError):
    """A sheet has several results."""

    def __init__(self, many):
        RuntimeError.__init__(self, f"not settled: there are {many} results")
        self.many = many


class Last(RuntimeError):
    """Nobody else is there."""

    def __init__(self):
        RuntimeError.__init__(self, "the last couple cannot leave")


class TooMany(OverflowError):
    """A search has too many people."""

    def __init__(self, size):
        OverflowError.__init__(self, f"too many people for a search: {size}")
        self.size = size
