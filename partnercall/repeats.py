"""Words that are repeated, up to a great number of times."""

from partnercall.calls import check_person
from partnercall.reading import result
from partnercall.sheets import empty_sheet, followed, people_of, sheet_of, times


def repeated(pairing, word, many):
    """Return the PAIRING after a WORD has been done many times."""
    return result(times(sheet_of(len(pairing), word), many), pairing)


def common_multiple(one, other):
    """Return the least number from 1 on that both numbers divide."""
    divisor = one
    rest = other
    while rest > 0:
        divisor, rest = rest, divisor % rest
    return one // divisor * other


def moves_of_strands(sheet):
    """Return where the lower ends of strands go by one more repetition, when SHEETs recur already.

    Each repetition leaves as many strands or fewer. As soon as one leaves as many, so do all further ones; then the
    upper and the lower pairs stay, and only the lower ends of the strands change places, each time in the same way.
    """
    size = people_of(sheet)
    # Strands go away in twos, so by now no more of them do.
    late = times(sheet, size)
    later = followed(late, sheet)
    return {late[x]: later[x] for x in range(size) if late[x] >= size}


def period_of_sheet(sheet):
    """Return the least number of repetitions, at least 1, after which SHEETs that recur are the same again."""
    moves = moves_of_strands(sheet)
    period = 1
    for start in moves:
        length = 1
        end = moves[start]
        while end != start:
            length += 1
            end = moves[end]
        period = common_multiple(period, length)
    return period


def sheet_settles(size, word):
    """Return the pair (begin, period) for the SHEETs of a WORD done 0, 1, 2, .. times."""
    sheet = sheet_of(size, word)
    period = period_of_sheet(sheet)
    around = times(sheet, period)
    present = empty_sheet(size)
    begin = 0
    while followed(present, around) != present:
        present = followed(present, sheet)
        begin += 1
    return (begin, period)


def settles(pairing, word):
    """Return the pair (begin, period) for the PAIRINGs after a WORD done 0, 1, 2, .. times."""
    sheet = sheet_of(len(pairing), word)
    period = period_of_sheet(sheet)
    around = times(sheet, period)
    present = tuple(pairing)
    begin = 0
    while result(around, present) != present:
        present = result(sheet, present)
        begin += 1
    # The period of the pairing divides that of the sheet, whose prime factors are at most the number of people.
    for divisor in range(2, len(pairing) + 1):
        while period % divisor == 0 and result(times(sheet, period // divisor), present) == present:
            period //= divisor
    return (begin, period)


def first_time(pairing, word, person, partner):
    """Return the least number of repetitions of a WORD after which two people are a couple, None if there is none."""
    size = len(pairing)
    sheet = sheet_of(size, word)
    check_person(size, person)
    check_person(size, partner)
    present = tuple(pairing)
    # PAIRINGs recur after at most size // 2 repetitions. From then on both people come from places that go round in
    # cycles of together at most size people, or in the same one; so they come from the same two places again, and
    # nothing new can happen, before size * size repetitions are over.
    for many in range(size * size):
        if present[person] == partner:
            return many
        present = result(sheet, present)
    return None
