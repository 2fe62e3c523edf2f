"""The fewest calls with a given sheet, or with one that does the same."""

from partnercall.calls import join_two
from partnercall.errors import NoWord
from partnercall.same import crossings
from partnercall.settling import is_settled, settle_word, settled_pairing
from partnercall.sheets import empty_sheet, lower_pairs, other_side, people_of, strands


def loop_of(sheet, person):
    """Return the LOOP of a person."""
    size = people_of(sheet)
    people = [person]
    end = sheet[person]
    while end != size + person:
        people.append(end % size)
        end = sheet[other_side(size, end)]
    return tuple(sorted(people))


def loops(sheet):
    """Return the ascending list of all LOOPs of a SHEET."""
    found = []
    seen = set()
    for person in range(people_of(sheet)):
        if person not in seen:
            loop = loop_of(sheet, person)
            found.append(loop)
            for member in loop:
                seen.add(member)
    return found


def is_pure(sheet, loop):
    """Tell whether a LOOP of a SHEET has at least two people and strands only."""
    # There are as many upper as lower pairs in a loop, so the upper ends tell it.
    return len(loop) > 1 and all([sheet[person] >= people_of(sheet) for person in loop])


def pure_loops(sheet):
    """Return the ascending list of the pure LOOPs of a SHEET."""
    return [loop for loop in loops(sheet) if is_pure(sheet, loop)]


def has_word(sheet):
    """Tell whether a SHEET is that of some WORD."""
    return lower_pairs(sheet) != [] or tuple(sheet) == empty_sheet(people_of(sheet))


def fewest_calls(sheet):
    """Return the number of CALLs of a shortest WORD with this SHEET."""
    if not has_word(sheet):
        raise NoWord()
    return people_of(sheet) - len(loops(sheet)) + 2 * len(pure_loops(sheet))


def undone_calls(ends, pure):
    """Take back CALLs that lead to the ends of a SHEET with these pure LOOPs, until it is empty; return them in turn.

    To take back a call of a lower pair, the join between both and another join are cut. The lower end of one of them
    is joined with one of the ends cut there, the lower end of the other one with the other end: so join_two does it.
    """
    size = people_of(ends)
    undone = []
    # A strand of a pure loop is cut: this ties the loop to one that has a lower pair, and it stays so.
    for loop in pure:
        a, b = lower_pairs(ends)[0]
        join_two(ends, size + a, loop[0])
        undone.append((a, b))
    # Now each call leaves one person alone in a loop. If the upper end of this person is on a strand, a lower pair is
    # left to the others; if those of both are in upper pairs, either no others are left or they have a lower pair.
    while lower_pairs(ends):
        a, b = lower_pairs(ends)[0]
        alone = a if ends[a] >= size else b
        join_two(ends, size + alone, alone)
        undone.append((a, b))
    return undone


def word_for(sheet):
    """Return a shortest WORD with this SHEET."""
    if not has_word(sheet):
        raise NoWord()
    return undone_calls(list(sheet), pure_loops(sheet))[::-1]


def word_same(sheet):
    """Return a shortest WORD whose SHEET does the same as a SHEET."""
    if is_settled(sheet):
        return settle_word(settled_pairing(sheet))
    alike = [tuple(sheet)]
    if len(strands(sheet)) == 4:
        alike.extend(crossings(sheet))
    words = [word_for(other) for other in alike if has_word(other)]
    if not words:
        raise NoWord()
    return min(words, key=len)


def fewest_same(sheet):
    """Return the number of CALLs of a shortest WORD whose SHEET does the same as a SHEET."""
    return len(word_same(sheet))
