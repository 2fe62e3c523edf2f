"""Sheets that do the same, and pairings that part two sheets."""

from partnercall.calls import join_two
from partnercall.pairings import is_pairing, pairing_at, pairing_of, pairings_many
from partnercall.reading import result
from partnercall.results import result_at
from partnercall.sheets import check_sizes, people_of, strands


def crossings(sheet):
    """Return the three SHEETs that join the four strands of a SHEET crosswise, which no result shows."""
    above = [x for x, y in strands(sheet)]
    found = []
    for number in range(pairings_many(4)):
        ends = list(sheet)
        for at, other in enumerate(pairing_at(4, number)):
            ends[above[at]] = sheet[above[other]]
            ends[sheet[above[other]]] = above[at]
        found.append(tuple(ends))
    return found


def do_same(one, other):
    """Tell whether two SHEETs have equal results for every PAIRING."""
    check_sizes(people_of(one), people_of(other))
    if tuple(one) == tuple(other):
        return True
    first = len(strands(one))
    second = len(strands(other))
    if first <= 2 and second <= 2:
        return result_at(one, 0) == result_at(other, 0)
    if first != 4 or second != 4:
        return False
    return tuple(other) in crossings(one)


def behind_call(sheet, call):
    """Return the SHEET of a CALL followed by a SHEET."""
    a, b = call
    ends = list(sheet)
    join_two(ends, a, b)
    return tuple(ends)


def parting_couple(one, other, free):
    """Return a couple of the first free person and another one; some PAIRING with it parts two SHEETs.

    The pairings after a call are those with this couple, so the sheets behind the call tell whether one of them parts.
    """
    possible = [(free[0], partner) for partner in free[1:]]
    return [call for call in possible if not do_same(behind_call(one, call), behind_call(other, call))][0]


def parting(one, other):
    """Return a PAIRING for which the results of two SHEETs differ, None if they do the same."""
    if do_same(one, other):
        return None
    first = one
    second = other
    found = []
    free = list(range(people_of(one)))
    # Couple by couple, the sheets behind the couples found go on to differ: at last only one pairing is left.
    while free:
        couple = parting_couple(first, second, free)
        found.append(couple)
        first = behind_call(first, couple)
        second = behind_call(second, couple)
        free = [person for person in free if person not in couple]
    return pairing_of(found)


def shows_parting(one, other, value):
    """Tell whether value is a PAIRING of as many people for which the results of two SHEETs differ."""
    check_sizes(people_of(one), people_of(other))
    if not is_pairing(value) or len(value) != people_of(one):
        return False
    return result(one, value) != result(other, value)
