"""Sheets: what a list of calls does to every pairing.

Of n people, person x has the upper end x and the lower end n + x.
"""

from partnercall.calls import check_word, join_two
from partnercall.errors import OtherSize
from partnercall.pairings import joins_in_pairs


def is_sheet(value):
    """Tell whether value is a SHEET."""
    # An even number of people has a multiple of four ends.
    return joins_in_pairs(value) and len(value) > 0 and len(value) % 4 == 0


def people_of(sheet):
    """Return the number of people of a SHEET."""
    return len(sheet) // 2


def check_sizes(first, second):
    """Raise OtherSize if the second one of two numbers of people differs from the first one."""
    if first != second:
        raise OtherSize(second)


def empty_sheet(size):
    """Return the empty SHEET of size people."""
    return tuple(list(range(size, 2 * size)) + list(range(size)))


def with_word(sheet, word):
    """Return the SHEET with all CALLs of a WORD added in order."""
    size = people_of(sheet)
    check_word(size, word)
    ends = list(sheet)
    for a, b in word:
        join_two(ends, size + a, size + b)
    return tuple(ends)


def sheet_of(size, word):
    """Return the SHEET of a WORD for size people."""
    return with_word(empty_sheet(size), word)


def with_call(sheet, call):
    """Return the SHEET with a CALL added."""
    return with_word(sheet, [call])


def upper_pairs(sheet):
    """Return the ascending list of the pairs of people whose upper ends are joined."""
    size = people_of(sheet)
    return [(x, sheet[x]) for x in range(size) if x < sheet[x] < size]


def lower_pairs(sheet):
    """Return the ascending list of the pairs of people whose lower ends are joined."""
    size = people_of(sheet)
    return [(x, sheet[size + x] - size) for x in range(size) if sheet[size + x] > size + x]


def strands(sheet):
    """Return the ascending list of the pairs (x, y): the upper end of x is joined with the lower end of y."""
    size = people_of(sheet)
    return [(x, sheet[x] - size) for x in range(size) if sheet[x] >= size]


def far_end(one, other, start):
    """Return the end that is left and is reached from start, along joins and ties, in one followed by other.

    The ends that are left are the upper ends of one and the lower ends of other.
    """
    size = people_of(one)
    inside_one = start < size
    end = one[start] if inside_one else other[start]
    # A lower end of one, and an upper end of other, is tied: the way goes on in the other sheet.
    while inside_one == (end >= size):
        end = other[end - size] if inside_one else one[end + size]
        inside_one = not inside_one
    return end


def followed(one, other):
    """Return the SHEET for one followed by other."""
    check_sizes(people_of(one), people_of(other))
    return tuple([far_end(one, other, start) for start in range(len(one))])


def times(sheet, many):
    """Return the SHEET for sheet followed by itself many times."""
    done = empty_sheet(people_of(sheet))
    power = tuple(sheet)
    left = many
    # Squaring keeps the steps few: many may be far too large to go one by one.
    while left > 0:
        if left % 2 == 1:
            done = followed(done, power)
        power = followed(power, power)
        left //= 2
    return done


def other_side(size, end):
    """Return the end of the same person on the other side."""
    return end + size if end < size else end - size


def mirrored(sheet):
    """Return the SHEET in which the upper and the lower ends of each person have changed places."""
    size = people_of(sheet)
    return tuple([other_side(size, sheet[other_side(size, end)]) for end in range(2 * size)])
