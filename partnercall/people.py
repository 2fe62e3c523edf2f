"""Other people: new numbers, two groups joined, a couple that goes away."""

from partnercall.calls import check_person, check_word
from partnercall.errors import Last
from partnercall.sheets import people_of


def moved(joins, places):
    """Return the tuple in which each index of joins, and what it is joined with, has moved to its new place."""
    found = [0] * len(joins)
    for at, other in enumerate(joins):
        found[places[at]] = places[other]
    return tuple(found)


def renumbered(pairing, numbers):
    """Return the PAIRING with the new numbers."""
    return moved(pairing, numbers)


def word_renumbered(word, numbers):
    """Return the WORD with the new numbers."""
    check_word(len(numbers), word)
    return [(min(numbers[a], numbers[b]), max(numbers[a], numbers[b])) for a, b in word]


def sheet_renumbered(sheet, numbers):
    """Return the SHEET with the new numbers."""
    size = people_of(sheet)
    return moved(sheet, list(numbers) + [size + number for number in numbers])


def joined(one, other):
    """Return the PAIRING of the people of both; those of other come behind those of one."""
    return tuple(one) + tuple([len(one) + partner for partner in other])


def sheets_joined(one, other):
    """Return the SHEET of the people of both; those of other come behind those of one."""
    first = people_of(one)
    size = first + people_of(other)
    # Joined like pairings, the lower ends of one stand before the upper ends of other: they change places.
    upper = list(range(size))
    lower = list(range(size, 2 * size))
    return moved(joined(one, other), upper[:first] + lower[:first] + upper[first:] + lower[first:])


def without(pairing, person):
    """Return the PAIRING of the others without a person and their partner."""
    check_person(len(pairing), person)
    if len(pairing) == 2:
        raise Last()
    others = [x for x in range(len(pairing)) if x != person and x != pairing[person]]
    return tuple([others.index(pairing[x]) for x in others])
