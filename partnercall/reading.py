"""Reading a sheet: following a path gives the partner behind the calls."""

from partnercall.calls import check_person
from partnercall.pairings import is_integer_below
from partnercall.sheets import check_sizes, people_of


def followed_path(sheet, pairing, person):
    """Return the PATH of one of the people; the sizes are checked already."""
    size = people_of(sheet)
    ends = [size + person, sheet[size + person]]
    while ends[-1] < size:
        partner = pairing[ends[-1]]
        ends.append(partner)
        ends.append(sheet[partner])
    return ends


def result(sheet, pairing):
    """Return the PAIRING in which the person at the last end of the PATH is the partner."""
    size = people_of(sheet)
    check_sizes(size, len(pairing))
    return tuple([followed_path(sheet, pairing, person)[-1] - size for person in range(size)])


def path(sheet, pairing, person):
    """Return the PATH of a person: the list of all its ends."""
    check_sizes(people_of(sheet), len(pairing))
    check_person(len(pairing), person)
    return followed_path(sheet, pairing, person)


def shows_path(sheet, pairing, person, value):
    """Tell whether value is the PATH of a person."""
    ends = path(sheet, pairing, person)
    if not isinstance(value, list):
        return False
    # True equals 1 for Python, so equal lists are not enough.
    return value == ends and all([is_integer_below(end, len(sheet)) for end in value])


def couples_on(sheet, pairing, person):
    """Return the ascending list of the COUPLES between whose upper ends the PATH of a person goes."""
    ends = path(sheet, pairing, person)
    # Behind the first end, upper ends come in twos, each of them a couple; the last end stands alone.
    steps = [(ends[at], ends[at + 1]) for at in range(1, len(ends) - 1, 2)]
    return sorted([(min(x, y), max(x, y)) for x, y in steps])
