"""From one pairing to another by the fewest calls, and the numbers of the shortest words."""

from partnercall.calls import called, called_all, check_word, is_call
from partnercall.errors import NoNumber, NotShortest
from partnercall.results import choice_at
from partnercall.sheets import check_sizes


def cycle_from(one, other, person):
    """Return the CYCLE of a person, written from this person on."""
    people = [person, one[person]]
    following = other[people[-1]]
    while following != person:
        people.append(following)
        people.append(one[following])
        following = other[people[-1]]
    return tuple(people)


def cycles(one, other):
    """Return the ascending list of all CYCLES of two PAIRINGs."""
    check_sizes(len(one), len(other))
    found = []
    seen = set()
    for person in range(len(one)):
        if person not in seen:
            cycle = cycle_from(one, other, person)
            found.append(cycle)
            for member in cycle:
                seen.add(member)
    return found


def distance(one, other):
    """Return the fewest calls that lead from one PAIRING to another."""
    return len(one) // 2 - len(cycles(one, other))


def ways_to_split(sizes):
    """Return how many shortest WORDs there are if the CYCLES have so many couples each.

    Every call of a shortest word splits a cycle. A cycle of k couples is split into common couples by k - 1 calls, in
    k to the power of k - 2 ways times two for each call, since two people may be called or those whom they leave. The
    calls of different cycles go between each other in any order.
    """
    many = 1
    calls = 0
    for couples in sizes:
        for step in range(1, couples):
            calls += 1
            # Here the product over the steps is a number of ways to choose the places of the calls: no rest is lost.
            many = many * 2 * calls // step
            if step > 1:
                many *= couples
    return many


def words_many(one, other):
    """Return how many shortest WORDs lead from one PAIRING to another."""
    return ways_to_split([len(cycle) // 2 for cycle in cycles(one, other)])


def splitting_calls(cycle):
    """Return the list of the pairs (call, part): a CALL that splits a CYCLE, and the couples in one of both parts."""
    found = []
    for x, person in enumerate(cycle):
        # An even number of steps apart, the couples are joined the other way round: the cycle stays whole.
        for y in range(x + 1, len(cycle), 2):
            inside = y - x + 1 if x % 2 == 1 else y - x - 1
            # With nobody inside, both are a couple already.
            if inside > 0:
                call = (min(person, cycle[y]), max(person, cycle[y]))
                found.append((call, inside // 2))
    return found


def first_calls(one, other):
    """Return the ascending list of the pairs (call, many): so many shortest WORDs begin with this CALL."""
    found = []
    around = cycles(one, other)
    sizes = [len(cycle) // 2 for cycle in around]
    for at, cycle in enumerate(around):
        others = sizes[:at] + sizes[at + 1:]
        # Only the sizes of the parts matter, so each of them is counted once.
        ways = [ways_to_split(others + [part, sizes[at] - part]) for part in range(sizes[at])]
        found.extend([(call, ways[part]) for call, part in splitting_calls(cycle)])
    return sorted(found)


def word_at(one, other, number):
    """Return the shortest WORD with this number in ascending order."""
    many = words_many(one, other)
    if not 0 <= number < many:
        raise NoNumber(number)
    present = one
    word = []
    rest = number
    for step in range(distance(one, other)):
        call, rest = choice_at(first_calls(present, other), rest)
        word.append(call)
        present = called(present, call)
    return word


def word_number(one, other, word):
    """Return the number of a shortest WORD in ascending order."""
    fewest = distance(one, other)
    check_word(len(one), word)
    if len(word) != fewest:
        raise NotShortest()
    present = one
    number = 0
    for a, b in word:
        choices = first_calls(present, other)
        if (a, b) not in [call for call, many in choices]:
            raise NotShortest()
        number += sum([many for call, many in choices if call < (a, b)])
        present = called(present, (a, b))
    return number


def leads(one, other, value):
    """Tell whether value is a list of CALLs of these people that leads from one PAIRING to another."""
    check_sizes(len(one), len(other))
    if not isinstance(value, list) or not all([is_call(item, len(one)) for item in value]):
        return False
    return called_all(one, value) == tuple(other)
