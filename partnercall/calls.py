"""Calls: two people who are called become a couple."""

from partnercall.errors import NoPerson
from partnercall.pairings import is_integer_below


def check_person(size, person):
    """Raise NoPerson if an integer is not one of size people."""
    if not 0 <= person < size:
        raise NoPerson(person)


def check_call(size, call):
    """Raise NoPerson for the first integer of a CALL that is not one of size people."""
    for person in call:
        check_person(size, person)


def check_word(size, word):
    """Raise NoPerson for the first integer of a WORD that is not one of size people."""
    for call in word:
        check_call(size, call)


def is_call(value, size):
    """Tell whether value is a CALL of two of size people."""
    if not isinstance(value, tuple) or len(value) != 2:
        return False
    return all([is_integer_below(person, size) for person in value]) and value[0] < value[1]


def all_calls(size):
    """Return the ascending list of all CALLs of size people."""
    return [(a, b) for a in range(size) for b in range(a + 1, size)]


def join_two(joined, a, b):
    """Join a and b in the list joined, and the two that are left; tell whether this changes it.

    Partners and the ends of a sheet are joined in the same way, so both use this.
    """
    left = joined[a]
    right = joined[b]
    if left == b:
        return False
    joined[a] = b
    joined[b] = a
    joined[left] = right
    joined[right] = left
    return True


def called(pairing, call):
    """Return the PAIRING after a CALL."""
    return called_all(pairing, [call])


def called_all(pairing, word):
    """Return the PAIRING after all CALLs of a WORD."""
    check_word(len(pairing), word)
    partners = list(pairing)
    for a, b in word:
        join_two(partners, a, b)
    return tuple(partners)


def pairings_along(pairing, word):
    """Return the list of the PAIRING before the first CALL and after each CALL."""
    check_word(len(pairing), word)
    partners = list(pairing)
    along = [tuple(partners)]
    for a, b in word:
        join_two(partners, a, b)
        along.append(tuple(partners))
    return along


def idle_calls(pairing, word):
    """Return the ascending list of the indices of the CALLs that change nothing."""
    check_word(len(pairing), word)
    partners = list(pairing)
    idle = []
    for at, (a, b) in enumerate(word):
        if not join_two(partners, a, b):
            idle.append(at)
    return idle
