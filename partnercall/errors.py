"""The errors of the package, each with what was wrong in its attributes.

No message has an integer in it: Python refuses to write integers of more than some thousand digits, and an error
must be made whatever integer was passed.
"""


class NoPerson(LookupError):
    """A number is not one of the people."""

    def __init__(self, person):
        LookupError.__init__(self, "this is not one of the people")
        self.person = person


class NoNumber(LookupError):
    """Nothing has this number."""

    def __init__(self, number):
        LookupError.__init__(self, "nothing has this number")
        self.number = number


class NoDeed(LookupError):
    """There are not so many deeds."""

    def __init__(self, many):
        LookupError.__init__(self, "there are not so many deeds")
        self.many = many


class OtherSize(ValueError):
    """The second of two arguments has another number of people than the first."""

    def __init__(self, size):
        ValueError.__init__(self, "the second one has another number of people")
        self.size = size


class NotResult(ValueError):
    """A lower pair is no couple of the pairing."""

    def __init__(self, pair):
        ValueError.__init__(self, "not a result: a lower pair is no couple")
        # A list is copied into a tuple, so that a later change of it has no effect here.
        self.pair = tuple(pair) if isinstance(pair, list) else pair


class NotShortest(ValueError):
    """A word is not one of the shortest."""

    def __init__(self):
        ValueError.__init__(self, "not one of the shortest words")


class NoWord(ValueError):
    """No word has such a sheet."""

    def __init__(self):
        ValueError.__init__(self, "there is no such word")


class BadDeed(ValueError):
    """An item is not a deed."""

    def __init__(self, at):
        ValueError.__init__(self, "an item is not a deed")
        self.at = at


class BadText(ValueError):
    """A word of a text is wrong."""

    def __init__(self, at):
        ValueError.__init__(self, "a word of the text is wrong")
        self.at = at


class BadLine(ValueError):
    """A line has none of the forms of a line."""

    def __init__(self, at):
        ValueError.__init__(self, "a line is wrong")
        self.at = at


class NotSettled(RuntimeError):
    """A sheet has several results."""

    def __init__(self, many):
        RuntimeError.__init__(self, "not settled: there are several results")
        self.many = many


class Last(RuntimeError):
    """Nobody else is there."""

    def __init__(self):
        RuntimeError.__init__(self, "the last couple cannot leave")


class TooMany(OverflowError):
    """A search has too many people."""

    def __init__(self, size):
        OverflowError.__init__(self, "too many people for a search")
        self.size = size
