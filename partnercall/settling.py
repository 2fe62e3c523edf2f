"""Settling: sheets with only one result, and calls that lead there."""

from partnercall.calls import check_person
from partnercall.errors import NotSettled
from partnercall.pairings import couples
from partnercall.results import loose_people, result_at, results_many
from partnercall.sheets import lower_pairs, people_of


def is_settled(sheet):
    """Tell whether a SHEET has only one result."""
    return results_many(sheet) == 1


def settled_pairing(sheet):
    """Return the only result of a SHEET."""
    many = results_many(sheet)
    if many != 1:
        raise NotSettled(many)
    return result_at(sheet, 0)


def sure_couples(sheet):
    """Return the ascending list of the COUPLES that all results have."""
    if is_settled(sheet):
        return couples(settled_pairing(sheet))
    return lower_pairs(sheet)


def partners_of(sheet, person):
    """Return the ascending list of the partners of a person in all results."""
    size = people_of(sheet)
    check_person(size, person)
    people = loose_people(sheet)
    if person in people:
        return [partner for partner in people if partner != person]
    return [sheet[size + person] - size]


def word_to_settle(sheet):
    """Return a shortest WORD that, added to a SHEET, makes it settled."""
    # Each call of two people at strands takes these two strands away, and no call takes more; two may be left.
    people = loose_people(sheet)
    return [(people[at], people[at + 1]) for at in range(0, len(people) - 2, 2)]


def fewest_to_settle(sheet):
    """Return the fewest CALLs that, added to a SHEET, make it settled."""
    return len(word_to_settle(sheet))


def settle_word(pairing):
    """Return the COUPLES of a PAIRING without the last one: a shortest WORD that leads every PAIRING to it."""
    return couples(pairing)[:-1]
