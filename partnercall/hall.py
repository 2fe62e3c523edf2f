"""A hall keeps a pairing over many deeds, which can be undone."""

from partnercall.between import word_at
from partnercall.calls import called, called_all, idle_calls
from partnercall.errors import BadDeed, Last, NoDeed, NoPerson, OtherSize
from partnercall.people import joined, without
from partnercall.repeats import repeated
from partnercall.sheets import sheet_of

# The names of the deeds that do accepts, and how many arguments each of them takes.
DEEDS = {"call": 2, "run": 1, "repeat": 2, "become": 1, "come": 0, "leave": 1}


def is_deed(item):
    """Tell whether an item is a tuple of the name of a deed and the right number of arguments."""
    if not isinstance(item, tuple) or len(item) == 0:
        return False
    # Only a string may be looked up: the name may be anything, also a list.
    name = item[0]
    return isinstance(name, str) and name in DEEDS and len(item) == DEEDS[name] + 1


def check_deeds(deeds):
    """Raise BadDeed for the first item that is not a deed."""
    for at, item in enumerate(deeds):
        if not is_deed(item):
            raise BadDeed(at)


class Hall:
    """A PAIRING that is changed by deeds.

    The list past has one pair for the beginning and one for each deed in effect: the PAIRING then, and the CALLs that
    the deed adds to the WORD, or None where the WORD begins anew.
    """

    def __init__(self, pairing):
        self.past = [(tuple(pairing), None)]
        self.written = []

    def keep(self, after, added):
        """Put a deed into effect. A deed does so only when it can raise no error any more."""
        self.past.append((after, added))

    def call(self, a, b):
        """Call two people; return the COUPLE of the partners who are left, None if the call is idle."""
        before = self.pairing()
        self.keep(called(before, (a, b)), ((a, b),))
        if before[a] == b:
            return None
        return (min(before[a], before[b]), max(before[a], before[b]))

    def run(self, word):
        """Do a WORD; return the number of calls that were not idle."""
        before = self.pairing()
        idle = idle_calls(before, word)
        self.keep(called_all(before, word), tuple([(a, b) for a, b in word]))
        return len(word) - len(idle)

    def repeat(self, word, many):
        """Do a WORD many times; return the number of people whose partners are different then."""
        before = self.pairing()
        after = repeated(before, word, many)
        self.keep(after, None)
        return len([x for x in range(len(before)) if before[x] != after[x]])

    def become(self, goal):
        """Lead to a PAIRING by the first shortest WORD, and return this WORD."""
        word = word_at(self.pairing(), goal, 0)
        self.keep(tuple(goal), tuple(word))
        return word

    def come(self):
        """Add two people as a couple, and return the COUPLE."""
        before = self.pairing()
        self.keep(joined(before, (1, 0)), None)
        return (len(before), len(before) + 1)

    def leave(self, person):
        """Let a person and their partner leave; return the partner's number, as it was."""
        before = self.pairing()
        self.keep(without(before, person), None)
        return before[person]

    def undo(self):
        """Take back the last deed in effect; tell whether there was one."""
        if self.deeds() == 0:
            return False
        self.past.pop()
        return True

    def do_one(self, deed):
        """Do one deed that is given as a tuple, and return its result."""
        name = deed[0]
        if name == "call":
            return self.call(deed[1], deed[2])
        if name == "run":
            return self.run(deed[1])
        if name == "repeat":
            return self.repeat(deed[1], deed[2])
        if name == "become":
            return self.become(deed[1])
        if name == "come":
            return self.come()
        return self.leave(deed[1])

    def do(self, deeds, *, whole=True):
        """Do a list of deeds that are given as tuples, and return the list of their results."""
        check_deeds(deeds)
        # The deeds are tried on a twin, so that nothing has to be taken back here.
        trial = self.twin()
        results = []
        try:
            for deed in deeds:
                results.append(trial.do_one(deed))
        except (NoPerson, OtherSize, Last):
            if not whole:
                self.past = list(trial.past)
            self.write(deeds, len(results))
            raise
        self.past = list(trial.past)
        self.write(deeds, len(results))
        return results

    def write(self, deeds, many):
        """Write into the log that the first many of these deeds were done."""
        self.written.append(("in", len(deeds)))
        self.written.extend([deed[0] for deed in deeds[:many]])
        self.written.append(("out", many))

    def pairing(self):
        """Return the PAIRING."""
        return self.past[-1][0]

    def anew(self):
        """Return the index in past at which the WORD begins."""
        return max([at for at, (then, added) in enumerate(self.past) if added is None])

    def word(self):
        """Return the WORD of all calls in effect since the last come, leave or repeat in effect."""
        found = []
        for then, added in self.past[self.anew() + 1:]:
            found.extend(added)
        return found

    def begun(self):
        """Return the PAIRING before the WORD."""
        return self.past[self.anew()][0]

    def sheet(self):
        """Return the SHEET of the WORD."""
        return sheet_of(len(self.pairing()), self.word())

    def deeds(self):
        """Return the number of deeds that can be undone."""
        return len(self.past) - 1

    def as_of(self, many):
        """Return a new Hall in the state after the first many deeds."""
        if not 0 <= many <= self.deeds():
            raise NoDeed(many)
        earlier = Hall(self.past[0][0])
        earlier.past = self.past[:many + 1]
        return earlier

    def twin(self):
        """Return a new Hall in the same state."""
        return self.as_of(self.deeds())

    def log(self):
        """Return the list of what do has written."""
        return list(self.written)

    def __len__(self):
        return len(self.past[-1][0])

    def __eq__(self, other):
        return isinstance(other, Hall) and self.past[-1][0] == other.past[-1][0]

    def __repr__(self):
        return f"Hall({len(self.past[-1][0])} people)"
