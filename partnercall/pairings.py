"""Pairings: tuples that give each person a partner."""

from partnercall.errors import NoNumber


def is_integer_below(value, limit):
    """Tell whether value is an integer from 0 to limit - 1."""
    # True and False are ints for Python, but not integers here.
    if not isinstance(value, int) or isinstance(value, bool):
        return False
    return 0 <= value < limit


def joins_in_pairs(value):
    """Tell whether value is a tuple that joins each of its indices with another one, both ways."""
    if not isinstance(value, tuple):
        return False
    # Every item must be known to be an index before one of them is used as an index.
    if not all([is_integer_below(item, len(value)) for item in value]):
        return False
    return all([other != at and value[other] == at for at, other in enumerate(value)])


def is_pairing(value):
    """Tell whether value is a PAIRING."""
    # Joined in pairs, the people are even in number; only nobody at all is left to exclude.
    return joins_in_pairs(value) and len(value) > 0


def couples(pairing):
    """Return the ascending list of the COUPLES of a PAIRING."""
    return [(x, y) for x, y in enumerate(pairing) if x < y]


def pairing_of(couples):
    """Return the PAIRING of a list of pairs."""
    partners = [0] * (2 * len(couples))
    for x, y in couples:
        partners[x] = y
        partners[y] = x
    return tuple(partners)


def pairings_many(size):
    """Return the number of PAIRINGs of size people: 1 * 3 * .. * (size - 1)."""
    many = 1
    for factor in range(1, size, 2):
        many *= factor
    return many


def pairing_at(size, number):
    """Return the PAIRING with this number in ascending order."""
    many = pairings_many(size)
    if not 0 <= number < many:
        raise NoNumber(number)
    # The first person without a partner decides the order, then the next one, and so on.
    found = []
    free = list(range(size))
    rest = number
    while free:
        person = free.pop(0)
        many //= len(free)
        choice, rest = divmod(rest, many)
        found.append((person, free.pop(choice)))
    return pairing_of(found)


def pairing_number(pairing):
    """Return the number of a PAIRING in ascending order."""
    number = 0
    free = list(range(len(pairing)))
    while free:
        person = free.pop(0)
        choice = free.index(pairing[person])
        number = number * len(free) + choice
        free.pop(choice)
    return number
