"""Results of a sheet, and the beginnings of each result, with their numbers."""

from partnercall.calls import join_two
from partnercall.errors import NoNumber, NotResult
from partnercall.pairings import couples, pairing_at, pairing_number, pairing_of, pairings_many
from partnercall.reading import result
from partnercall.sheets import check_sizes, lower_pairs, people_of


def loose_people(sheet):
    """Return the ascending list of the people at the lower ends of strands.

    Their partners depend on the beginning; all others are in lower pairs.
    """
    size = people_of(sheet)
    return [person for person in range(size) if sheet[size + person] < size]


def results_many(sheet):
    """Return the number of results of a SHEET."""
    # Without strands this is the empty product: one result.
    return pairings_many(len(loose_people(sheet)))


def result_at(sheet, number):
    """Return the result with this number in ascending order."""
    # All results agree outside the loose people, so these alone decide the order.
    people = loose_people(sheet)
    chosen = couples(pairing_at(len(people), number))
    return pairing_of(lower_pairs(sheet) + [(people[x], people[y]) for x, y in chosen])


def result_bar(sheet, pairing):
    """Return the first lower pair that is no COUPLE of a PAIRING, None if there is none."""
    check_sizes(people_of(sheet), len(pairing))
    for x, y in lower_pairs(sheet):
        if pairing[x] != y:
            return (x, y)
    return None


def check_result(sheet, pairing):
    """Raise NotResult if a PAIRING is no result of a SHEET."""
    bar = result_bar(sheet, pairing)
    if bar is not None:
        raise NotResult(bar)


def result_number(sheet, pairing):
    """Return the number of a result in ascending order."""
    check_result(sheet, pairing)
    people = loose_people(sheet)
    return pairing_number([people.index(pairing[person]) for person in people])


def ways_to_begin(size, bound):
    """Return how many PAIRINGs of size upper ends join those of the bound ones that belong together."""
    return pairings_many(size) // pairings_many(bound)


def beginnings_many(sheet, pairing):
    """Return the number of beginnings of a PAIRING, 0 if it is no result."""
    if result_bar(sheet, pairing) is not None:
        return 0
    return ways_to_begin(len(pairing), len(loose_people(sheet)))


class Begun:
    """The beginnings of a result that have the couples taken so far.

    An upper end is free as long as its person has no partner. The free ends belong together in twos: far gives the
    other one. Bound ends lead to strands that end at partners of the result, so two bound ends may become a couple
    only if they belong together. Two ends that are not bound are joined already, and may each go on to any other end.
    """

    def __init__(self, sheet, pairing):
        size = people_of(sheet)
        self.free = list(range(size))
        self.bound = [sheet[end] >= size for end in range(size)]
        self.far = [far_upper_end(sheet, pairing, end) for end in range(size)]

    def choices(self):
        """Return the ascending list of the pairs (partner, many) for the first free person.

        These are the partners with whom there are beginnings, and how many there are.
        """
        person = self.free[0]
        left = len(self.free) - 2
        bound = len([end for end in self.free if self.bound[end]])
        found = []
        for partner in self.free[1:]:
            if not (self.bound[person] and self.bound[partner]):
                found.append((partner, ways_to_begin(left, bound)))
            elif self.far[person] == partner:
                found.append((partner, ways_to_begin(left, bound - 2)))
        return found

    def take(self, partner):
        """Give the first free person one of the partners of choices."""
        person = self.free.pop(0)
        self.free.remove(partner)
        # What is joined with a bound end takes its place: the end on its far side is bound now.
        bound = self.bound[person] or self.bound[partner]
        self.bound[self.far[person]] = bound
        self.bound[self.far[partner]] = bound
        join_two(self.far, person, partner)


def far_upper_end(sheet, pairing, end):
    """Return the upper end that is joined with an upper end, also through a COUPLE of the PAIRING behind the SHEET."""
    size = people_of(sheet)
    joined = sheet[end]
    if joined < size:
        return joined
    return sheet[size + pairing[joined - size]]


def choice_at(choices, number):
    """Return the choice in the list with this number, and the number of this list among those with this choice.

    A list is made choice by choice, and the lists are in ascending order. The choices for its first place are
    ascending pairs (choice, many): so many lists begin with it.
    """
    at = 0
    rest = number
    while rest >= choices[at][1]:
        rest -= choices[at][1]
        at += 1
    return choices[at][0], rest


def beginning_at(sheet, pairing, number):
    """Return the beginning of a PAIRING with this number in ascending order."""
    check_result(sheet, pairing)
    if not 0 <= number < beginnings_many(sheet, pairing):
        raise NoNumber(number)
    begun = Begun(sheet, pairing)
    found = []
    rest = number
    while begun.free:
        partner, rest = choice_at(begun.choices(), rest)
        found.append((begun.free[0], partner))
        begun.take(partner)
    return pairing_of(found)


def beginning_number(sheet, beginning):
    """Return the number of a beginning among the beginnings of its result."""
    begun = Begun(sheet, result(sheet, beginning))
    number = 0
    while begun.free:
        partner = beginning[begun.free[0]]
        number += sum([many for other, many in begun.choices() if other < partner])
        begun.take(partner)
    return number
