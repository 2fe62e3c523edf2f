"""What several tests use: other ways to pass arguments, and all or some pairings, sheets and words.

Nothing here uses the program, so that it can be compared with what stands here.
"""

import copy
import random

ODD_VALUES = [
    None, True, False, 0, 1, -1, 7, 10 ** 30, "", "1", "10", "(1, 0)", [], (), [[]], ((),), [()],
    [1, 0], [1, 0, 3, 2], [2, 3, 0, 1], (None,), (None, None), ("1", "0"), ("1", 0), (1, "0"),
    (True, False), (1, False), (True, 0), (True, 0, 3, 2), (1, False, 3, 2), (2, 3, False, True),
    (2, 3, 0, True), (2, 3, False, 1), (0,), (0, 1), (0, 0), (1, 1), (1,), (1, 0, 2), (1, 2, 0),
    (1, 2, 0, 3), (1, 2, 3, 0), (1, 0, 2, 3), (1, 0, 3, 3), (1, 0, 1, 0), (1, 0, 3, 4), (1, 0, 4, 2),
    (-1, -2), (-1, 0), (1, -2), (1, 0, -1, -2), (1, 0, 3, -2), (3, 2, 1, -4), (2, 1), (1, 2),
    (10 ** 30, 0), (1, 10 ** 30), (-10 ** 30, 0), (1, -3), (1, 0, 3, -9),
    ((1, 0),), ((1, 0), (3, 2)), ([1], [0]), ((1,), (0,)), ("a", "b"),
    [(0, 1), (2, 3)], ((0, 1), (2, 3)), (1, 0, None, 2), (1, 0, "3", 2), (1, 0, (3,), 2), (1, 0, [3], [2]),
    [[[[[[[[1]]]]]]]], (((((((1, 0),),),),),),), (1, 0, 3, 2, 4), (1, 0, 3, 2, None), tuple([0] * 40),
    list(range(40)), tuple(range(40)),
]


def as_lists(value):
    """Lists in place of tuples, at any depth."""
    if isinstance(value, (list, tuple)):
        return [as_lists(item) for item in value]
    return value


def as_tuples(value):
    """Tuples in place of lists, at any depth."""
    if isinstance(value, (list, tuple)):
        return tuple(as_tuples(item) for item in value)
    return value


def swapped(value):
    """Lists in place of tuples and tuples in place of lists, at any depth."""
    if isinstance(value, tuple):
        return [swapped(item) for item in value]
    if isinstance(value, list):
        return tuple(swapped(item) for item in value)
    return value


def spoil(value):
    """Change a list that was returned, and the lists in it."""
    if isinstance(value, list):
        for item in value:
            spoil(item)
        value.reverse()
        value.append("spoilt")


def in_all_forms(arguments):
    """The arguments in all forms in which they may be passed; one called value keeps its form."""
    for form in (copy.deepcopy, as_lists, as_tuples, swapped):
        yield {name: worth if name == "value" else form(worth) for name, worth in arguments.items()}


def check_answer(test, function, expected, **arguments):
    """Check an answer in every way in which the arguments may be passed.

    The texts are compared, since 1 equals True. The names are given in the order of the parameters.
    """
    for passed in in_all_forms(arguments):
        before = repr(passed)
        # A list that was returned belongs to the caller: changing it must not show in the next answer.
        for ask in (lambda: function(*passed.values()), lambda: function(**passed)):
            answer = ask()
            test.assertEqual(repr(answer), repr(expected))
            spoil(answer)
            answer = ask()
            test.assertEqual(repr(answer), repr(expected))
        test.assertEqual(repr(passed), before)


def check_error(test, function, error, attributes, **arguments):
    """Check an error in every way in which the arguments may be passed."""
    for passed in in_all_forms(arguments):
        before = repr(passed)
        for ask in (lambda: function(*passed.values()), lambda: function(**passed)):
            with test.assertRaises(error) as caught:
                ask()
            test.assertIs(caught.exception.__class__, error)
            found = {name: getattr(caught.exception, name) for name in attributes}
            test.assertEqual(repr(found), repr(attributes))
        test.assertEqual(repr(passed), before)


def check_is_word(test, word, size):
    """Check that something is a list of calls of size people."""
    test.assertIs(word.__class__, list)
    for call in word:
        test.assertIs(call.__class__, tuple)
        test.assertTrue(all(person.__class__ is int for person in call))
        test.assertIn(call, all_calls(size))


def check_great(test, function, error, attribute, great, **arguments):
    """Check an error about an integer that is too great to be written."""
    with test.assertRaises(error) as caught:
        function(**arguments)
    test.assertIs(caught.exception.__class__, error)
    test.assertTrue(getattr(caught.exception, attribute) == great)


def one_call(pairing, call):
    """The pairing after one call, as [1] tells it, by taking couples away and adding new ones."""
    standing = {frozenset((x, pairing[x])) for x in range(len(pairing))}
    if frozenset(call) in standing:
        return pairing
    a, b = call
    torn = {couple for couple in standing if a in couple or b in couple}
    left = frozenset().union(*torn) - {a, b}
    standing = (standing - torn) | {frozenset(call), left}
    return tuple(next(y for couple in standing if x in couple for y in couple - {x}) for x in range(len(pairing)))


def along_one_by_one(pairing, word):
    along = [pairing]
    for call in word:
        along.append(one_call(along[-1], call))
    return along


def cycles_many(one, other):
    """The number of groups of people who are reached from each other by going from partner to partner."""
    left = set(range(len(one)))
    many = 0
    while left:
        many += 1
        reached = {min(left)}
        while not {one[x] for x in reached} | {other[x] for x in reached} <= reached:
            reached |= {one[x] for x in reached} | {other[x] for x in reached}
        left -= reached
    return many


def first_way(one, other):
    """The first shortest word from one pairing to another: each time the first call that makes one more group."""
    word = []
    while one != other:
        call = next(call for call in all_calls(len(one))
                    if cycles_many(one_call(one, call), other) > cycles_many(one, other))
        word.append(call)
        one = one_call(one, call)
    return word


def without_couple(pairing, person):
    """The pairing of the others, by giving them new numbers."""
    gone = {person, pairing[person]}
    new = {}
    for x in range(len(pairing)):
        if x not in gone:
            new[x] = len(new)
    return tuple(new[pairing[x]] for x in range(len(pairing)) if x not in gone)


def ends_reached(sheet, pairing, person):
    """All ends that are reached from a person's lower end along joins and couples, the nearer ones first."""
    size = len(sheet) // 2
    reached = [size + person]
    for end in reached:
        near = [sheet[end]] + ([pairing[end]] if end < size else [])
        reached.extend(other for other in near if other not in reached)
    return reached


def result_reached(sheet, pairing):
    """The pairing in which those are partners whose lower ends are reached from each other."""
    size = len(sheet) // 2
    found = []
    for person in range(size):
        far = [end - size for end in ends_reached(sheet, pairing, person) if end >= size and end != size + person]
        assert len(far) == 1
        found.append(far[0])
    return tuple(found)


def lower_pairs_of(sheet):
    size = len(sheet) // 2
    return [(x, sheet[size + x] - size) for x in range(size) if sheet[size + x] > size + x]


def sheet_of_joins(size, upper, lower, between):
    """The sheet with these upper pairs, lower pairs and strands."""
    joins = upper + [(size + x, size + y) for x, y in lower] + [(x, size + y) for x, y in between]
    sheet = [None] * (2 * size)
    for end, other in joins:
        sheet[end], sheet[other] = other, end
    return tuple(sheet)


def some_sheet(chance, size, strands_many):
    """A sheet with so many strands, by chance."""
    above, below = list(range(size)), list(range(size))
    chance.shuffle(above)
    chance.shuffle(below)
    upper = [(above[at], above[at + 1]) for at in range(strands_many, size, 2)]
    lower = [(below[at], below[at + 1]) for at in range(strands_many, size, 2)]
    return sheet_of_joins(size, upper, lower, list(zip(above[:strands_many], below[:strands_many])))


def sheet_of_strands(numbers):
    """The sheet whose strands go from the upper end of x to the lower end of numbers[x]."""
    size = len(numbers)
    return tuple([size + y for y in numbers] + [numbers.index(y) for y in range(size)])


def all_joinings(size):
    """All tuples that join the numbers below size in pairs, in no particular order."""
    found = []

    def go_on(free, joined):
        if not free:
            found.append(tuple(joined[x] for x in range(size)))
            return
        for y in free[1:]:
            rest = [x for x in free if x not in (free[0], y)]
            go_on(rest, {**joined, free[0]: y, y: free[0]})

    go_on(list(range(size)), {})
    return found


def some_joining(chance, size):
    """A tuple that joins the numbers below size in pairs, by chance."""
    order = list(range(size))
    chance.shuffle(order)
    joined = [0] * size
    for at in range(0, size, 2):
        joined[order[at]] = order[at + 1]
        joined[order[at + 1]] = order[at]
    return tuple(joined)


def all_calls(size):
    """All calls of size people, ascending."""
    return [(a, b) for a in range(size) for b in range(a + 1, size)]


def sheet_one_call(sheet, call):
    """The sheet with one call added, as [6] tells it."""
    size = len(sheet) // 2
    a, b = size + call[0], size + call[1]
    if sheet[a] == b:
        return sheet
    joined = {end: other for end, other in enumerate(sheet)}
    u, v = joined[a], joined[b]
    joined.update({a: b, b: a, u: v, v: u})
    return tuple(joined[end] for end in range(2 * size))


def sheet_one_by_one(size, word):
    """The sheet of a word, call by call."""
    sheet = tuple(range(size, 2 * size)) + tuple(range(size))
    for call in word:
        sheet = sheet_one_call(sheet, call)
    return sheet


def parts_of(sheet):
    """The upper pairs, the lower pairs and the strands of a sheet."""
    size = len(sheet) // 2
    upper = [(x, sheet[x]) for x in range(size) if x < sheet[x] < size]
    return upper, lower_pairs_of(sheet), [(x, sheet[x] - size) for x in range(size) if sheet[x] >= size]


def with_strands_in_order(sheet, order):
    """The sheet with the lower ends of its first strands in another order."""
    upper, lower, between = parts_of(sheet)
    moved = [(between[at][0], between[order[at]][1]) for at in range(len(order))]
    return sheet_of_joins(len(sheet) // 2, upper, lower, moved + between[len(order):])


def some_call(chance, size):
    """A call of two of size people, by chance."""
    return tuple(sorted(chance.sample(range(size), 2)))


def some_word(chance, size, length):
    """A word of so many calls of size people, by chance."""
    return [some_call(chance, size) for step in range(length)]


def fixed_chance(seed):
    """A source of chance that gives the same in every run."""
    return random.Random(seed)
