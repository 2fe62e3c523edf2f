"""Small searches through all sheets of few people."""

from partnercall.calls import all_calls
from partnercall.errors import TooMany
from partnercall.sheets import empty_sheet, people_of, with_call

MOST_PEOPLE = 4


def check_few(size):
    """Raise TooMany if there are too many people for a search."""
    if size > MOST_PEOPLE:
        raise TooMany(size)


def first_words(size):
    """Return a dict with the SHEETs of all WORDs: to each of them the first of its shortest WORDs."""
    layer = [empty_sheet(size)]
    found = {empty_sheet(size): []}
    # A layer has the sheets of equally long words, those with earlier words first. So what is found first is first.
    while layer:
        following = []
        for sheet in layer:
            for call in all_calls(size):
                reached = with_call(sheet, call)
                if reached not in found:
                    found[reached] = found[sheet] + [call]
                    following.append(reached)
        layer = following
    return found


def all_sheets(size):
    """Return the ascending list of the SHEETs of all WORDs."""
    check_few(size)
    return sorted(first_words(size))


def first_word(sheet):
    """Return the first of the shortest WORDs with this SHEET, None if no WORD has it."""
    size = people_of(sheet)
    check_few(size)
    return first_words(size).get(tuple(sheet))


def words_with(sheet, many):
    """Return how many WORDs of so many CALLs have this SHEET."""
    size = people_of(sheet)
    check_few(size)
    counts = {empty_sheet(size): 1}
    for step in range(many):
        longer = {}
        for start in counts:
            for call in all_calls(size):
                reached = with_call(start, call)
                longer[reached] = longer.get(reached, 0) + counts[start]
        counts = longer
    return counts.get(tuple(sheet), 0)
