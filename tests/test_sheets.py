"""Point [6]: sheets, compared with the descriptions of joins, calls and ties there."""

import unittest

from partnercall.errors import NoPerson, OtherSize
from partnercall.sheets import (
    empty_sheet, followed, is_sheet, lower_pairs, mirrored, sheet_of, strands, times, upper_pairs, with_call,
)
from support import (
    ODD_VALUES, all_joinings, check_answer, check_error, fixed_chance, sheet_of_strands, some_joining, some_word,
)

ONE = (1, 0, 6, 7, 5, 4, 2, 3)
UP = "upper"
LOW = "lower"


def as_joins(sheet):
    """A sheet as the set of its joins, each a set of two ends with their sides and people."""
    size = len(sheet) // 2
    named = [(UP, x) for x in range(size)] + [(LOW, x) for x in range(size)]
    return {frozenset((named[end], named[sheet[end]])) for end in range(2 * size)}


def as_sheet(size, joins):
    named = [(UP, x) for x in range(size)] + [(LOW, x) for x in range(size)]
    far = {end: next(iter(join - {end})) for join in joins for end in join}
    return tuple(named.index(far[end]) for end in named)


def joins_with_call(joins, call):
    """A call added to the joins, as [6] tells it."""
    a, b = (LOW, call[0]), (LOW, call[1])
    if frozenset((a, b)) in joins:
        return joins
    torn = {join for join in joins if a in join or b in join}
    left = frozenset().union(*torn) - {a, b}
    return (joins - torn) | {frozenset((a, b)), left}


def sheet_one_by_one(size, word):
    joins = {frozenset(((UP, x), (LOW, x))) for x in range(size)}
    for call in word:
        joins = joins_with_call(joins, call)
    return as_sheet(size, joins)


def followed_along_ties(one, other):
    """One followed by other, as [6] tells it: whatever is reached from an end along joins and ties."""
    size = len(one) // 2
    links = [{(1, *end) for end in join} for join in as_joins(one)]
    links += [{(2, *end) for end in join} for join in as_joins(other)]
    links += [{(1, LOW, x), (2, UP, x)} for x in range(size)]
    beside = {}
    for link in links:
        for end in link:
            beside.setdefault(end, []).extend(link - {end})
    outer = [(1, UP, x) for x in range(size)] + [(2, LOW, x) for x in range(size)]
    found = []
    for start in outer:
        reached = [start]
        for end in reached:
            reached.extend(near for near in beside[end] if near not in reached)
        far = [end for end in reached if end in outer and end != start]
        assert len(far) == 1
        found.append(outer.index(far[0]))
    return tuple(found)


def times_one_by_one(sheet, many):
    """The powers of a sheet one after another until one comes again; then the one with the number many."""
    powers = [empty_sheet(len(sheet) // 2)]
    while len(powers) <= many:
        power = followed(powers[-1], sheet)
        if power in powers:
            begin = powers.index(power)
            return powers[begin + (many - begin) % (len(powers) - begin)]
        powers.append(power)
    return powers[many]


def is_sheet_as_described(value):
    """The definition in [6], word by word."""
    if value.__class__ is not tuple or len(value) < 4 or len(value) % 4 != 0:
        return False
    for end in value:
        if end.__class__ is not int or end not in range(len(value)):
            return False
    return all(value[end] != end and value[value[end]] == end for end in range(len(value)))


class IsSheet(unittest.TestCase):
    def test_all_small_ones(self):
        for size in (2, 4):
            for sheet in all_joinings(2 * size):
                self.assertIs(is_sheet(sheet), True)
                self.assertIs(is_sheet(value=sheet), True)
                self.assertIs(is_sheet(list(sheet)), False)

    def test_odd_numbers_of_people(self):
        for ends in (2, 6, 10):
            for joined in all_joinings(ends):
                self.assertIs(is_sheet(joined), False)

    def test_odd_values(self):
        for value in ODD_VALUES:
            with self.subTest(value=value):
                before = repr(value)
                self.assertIs(is_sheet(value), is_sheet_as_described(value))
                self.assertIs(is_sheet(value=value), is_sheet_as_described(value))
                self.assertEqual(repr(value), before)

    def test_odd_values_that_are_none(self):
        for value in [(), None, True, 4, "2301", [2, 3, 0, 1], (2, 3, 0, True), (2, 3, False, 1), (1, 0, 3, 3),
                      (0, 1, 2, 3), (1, 0, -1, -2), (1, 0, 3, 4), (1, 0, 3), (1, 2, 3, 0), (1, 0)]:
            with self.subTest(value=value):
                self.assertIs(is_sheet(value), False)

    def test_any_size(self):
        large = tuple(x + 1 - 2 * (x % 2) for x in range(100000))
        self.assertIs(is_sheet(large), True)
        self.assertIs(is_sheet(large[:-2]), False)
        self.assertIs(is_sheet(large[:-1] + (True,)), False)

    def test_of_words(self):
        chance = fixed_chance(6)
        for size in (2, 4, 20):
            self.assertIs(is_sheet(sheet_of(size, some_word(chance, size, 30))), True)


class Made(unittest.TestCase):
    def test_empty_sheet(self):
        check_answer(self, empty_sheet, (2, 3, 0, 1), size=2)
        check_answer(self, empty_sheet, (4, 5, 6, 7, 0, 1, 2, 3), size=4)
        for size in (2, 4, 6, 20):
            check_answer(self, empty_sheet, sheet_one_by_one(size, []), size=size)

    def test_sheet_of_empty_word(self):
        for size in (2, 4, 20):
            check_answer(self, sheet_of, empty_sheet(size), size=size, word=[])

    def test_sheet_of(self):
        check_answer(self, sheet_of, (1, 0, 3, 2), size=2, word=[(0, 1)])
        check_answer(self, sheet_of, ONE, size=4, word=[(0, 1), (0, 1)])
        chance = fixed_chance(66)
        for size in (2, 4, 6, 20):
            for length in (1, 2, 3, 7, 30):
                for step in range(5):
                    word = some_word(chance, size, length)
                    check_answer(self, sheet_of, sheet_one_by_one(size, word), size=size, word=word)

    def test_sheet_of_1000_calls(self):
        word = some_word(fixed_chance(1000), 20, 1000)
        check_answer(self, sheet_of, sheet_one_by_one(20, word), size=20, word=word)

    def test_with_call_for_all_small_sheets(self):
        for size in (2, 4):
            for sheet in all_joinings(2 * size):
                for b in range(size):
                    for a in range(b):
                        expected = as_sheet(size, joins_with_call(as_joins(sheet), (a, b)))
                        check_answer(self, with_call, expected, sheet=sheet, call=(a, b))

    def test_with_call_for_20_people(self):
        chance = fixed_chance(20)
        for step in range(50):
            sheet = some_joining(chance, 40)
            call = tuple(sorted(chance.sample(range(20), 2)))
            expected = as_sheet(20, joins_with_call(as_joins(sheet), call))
            check_answer(self, with_call, expected, sheet=sheet, call=call)

    def test_no_person(self):
        for call, person in (((1, 4), 4), ((4, 5), 4), ((-1, 2), -1), ((-3, 9), -3), ((-4, -3), -4),
                             ((0, 10 ** 30), 10 ** 30)):
            check_error(self, with_call, NoPerson, {"person": person}, sheet=ONE, call=call)
            check_error(self, sheet_of, NoPerson, {"person": person}, size=4, word=[(0, 1), call])
        for word, person in (([(0, 9), (-1, 2)], 9), ([(0, 1)] * 999 + [(2, 4)], 4), ([(5, 6), (0, 4)], 5)):
            check_error(self, sheet_of, NoPerson, {"person": person}, size=4, word=word)
        check_error(self, sheet_of, NoPerson, {"person": 2}, size=2, word=[(0, 2)])
        check_error(self, sheet_of, NoPerson, {"person": 20}, size=20, word=[(0, 20)])


class Parts(unittest.TestCase):
    def test_answers(self):
        sheet = (1, 0, 4, 7, 2, 6, 5, 3)
        check_answer(self, upper_pairs, [(0, 1)], sheet=sheet)
        check_answer(self, lower_pairs, [(1, 2)], sheet=sheet)
        check_answer(self, strands, [(2, 0), (3, 3)], sheet=sheet)
        check_answer(self, upper_pairs, [], sheet=empty_sheet(2))
        check_answer(self, lower_pairs, [], sheet=empty_sheet(2))
        check_answer(self, strands, [(0, 0), (1, 1)], sheet=empty_sheet(2))

    def test_all_small_and_some_large_sheets(self):
        chance = fixed_chance(7)
        some = all_joinings(4) + all_joinings(8)
        some += [some_joining(chance, ends) for ends in (12, 16, 40) for step in range(30)]
        for sheet in some:
            joins = [sorted(join, reverse=True) for join in as_joins(sheet)]
            upper = sorted((b, a) for (s, a), (t, b) in joins if s == UP and t == UP)
            lower = sorted((b, a) for (s, a), (t, b) in joins if s == LOW and t == LOW)
            between = sorted((a, b) for (s, a), (t, b) in joins if s == UP and t == LOW)
            check_answer(self, upper_pairs, upper, sheet=sheet)
            check_answer(self, lower_pairs, lower, sheet=sheet)
            check_answer(self, strands, between, sheet=sheet)
            self.assertEqual(len(upper), len(lower))


class Followed(unittest.TestCase):
    def test_all_small_sheets(self):
        for one in all_joinings(4):
            for other in all_joinings(4):
                check_answer(self, followed, followed_along_ties(one, other), one=one, other=other)
        chance = fixed_chance(8)
        four = all_joinings(8)
        for one in four:
            for other in chance.sample(four, 15):
                self.assertEqual(followed(one, other), followed_along_ties(one, other))

    def test_large_sheets(self):
        chance = fixed_chance(9)
        for ends in (12, 16, 40):
            for step in range(30):
                one, other = some_joining(chance, ends), some_joining(chance, ends)
                check_answer(self, followed, followed_along_ties(one, other), one=one, other=other)

    def test_two_words(self):
        chance = fixed_chance(10)
        for size in (2, 4, 6, 20):
            for length in (0, 1, 2, 5, 20):
                for step in range(5):
                    first, second = some_word(chance, size, length), some_word(chance, size, 3)
                    both = sheet_of(size, first + second)
                    check_answer(self, followed, both, one=sheet_of(size, first), other=sheet_of(size, second))

    def test_same_object_twice(self):
        self.assertEqual(followed(ONE, ONE), ONE)

    def test_other_size(self):
        for first, second in ((2, 4), (4, 2), (20, 18), (2, 20)):
            check_error(self, followed, OtherSize, {"size": second},
                        one=empty_sheet(first), other=empty_sheet(second))
        check_error(self, followed, OtherSize, {"size": 2}, one=ONE, other=(1, 0, 3, 2))


class Times(unittest.TestCase):
    def test_none_and_one(self):
        for sheet in all_joinings(4) + all_joinings(8):
            check_answer(self, times, empty_sheet(len(sheet) // 2), sheet=sheet, many=0)
            check_answer(self, times, sheet, sheet=sheet, many=1)

    def test_again_and_again(self):
        chance = fixed_chance(11)
        some = all_joinings(4) + all_joinings(8) + [some_joining(chance, 40) for step in range(10)]
        for sheet in some:
            power = empty_sheet(len(sheet) // 2)
            for many in range(12):
                self.assertEqual(times(sheet, many), power)
                power = followed(power, sheet)

    def test_very_often(self):
        chance = fixed_chance(12)
        for size in (2, 4, 6, 20):
            for step in range(10):
                sheet = some_joining(chance, 2 * size)
                for many in (10 ** 12, 10 ** 12 - 1, 999999999989):
                    expected = times_one_by_one(sheet, many)
                    check_answer(self, times, expected, sheet=sheet, many=many)

    def test_long_period(self):
        # Rings of 3, 4, 5 and 7 people recur only after 420 times.
        numbers = [1, 2, 0, 4, 5, 6, 3, 8, 9, 10, 11, 7, 13, 14, 15, 16, 17, 18, 12, 19]
        sheet = sheet_of_strands(numbers)
        self.assertNotIn(empty_sheet(20), [times(sheet, many) for many in range(1, 420)])
        self.assertEqual(times(sheet, 420), empty_sheet(20))
        check_answer(self, times, times(sheet, 10 ** 12 % 420), sheet=sheet, many=10 ** 12)
        self.assertEqual(times(sheet, 10 ** 12), times_one_by_one(sheet, 10 ** 12))

    def test_word_done_often(self):
        word = some_word(fixed_chance(13), 20, 6)
        for many in (0, 1, 2, 5, 30):
            check_answer(self, times, sheet_of(20, word * many), sheet=sheet_of(20, word), many=many)


class Mirrored(unittest.TestCase):
    def test_changed_places(self):
        chance = fixed_chance(14)
        places = {UP: LOW, LOW: UP}
        some = all_joinings(4) + all_joinings(8) + [some_joining(chance, 40) for step in range(30)]
        for sheet in some:
            joins = {frozenset((places[side], x) for side, x in join) for join in as_joins(sheet)}
            check_answer(self, mirrored, as_sheet(len(sheet) // 2, joins), sheet=sheet)

    def test_word_in_reverse_order(self):
        chance = fixed_chance(15)
        for size in (2, 4, 6, 20):
            for length in (0, 1, 2, 5, 20, 1000):
                word = some_word(chance, size, length)
                check_answer(self, mirrored, sheet_of(size, word[::-1]), sheet=sheet_of(size, word))


if __name__ == "__main__":
    unittest.main()
