"""Point [9]: sheets that do the same, compared with the results of all pairings of few people."""

import unittest

from partnercall.errors import OtherSize
from partnercall.same import do_same, parting, shows_parting
from partnercall.sheets import empty_sheet, sheet_of
from support import (
    ODD_VALUES, all_joinings, check_answer, check_error, fixed_chance, parts_of, result_reached, sheet_of_joins,
    sheet_of_strands, some_joining, some_sheet, some_word, with_strands_in_order,
)

ONE = (1, 0, 6, 7, 5, 4, 2, 3)
WIDE = (1, 0, 8, 9, 10, 11, 7, 6, 2, 3, 4, 5)
WIDE_ELSEWHERE = (6, 7, 3, 2, 10, 11, 0, 1, 9, 8, 4, 5)
# All orders of four that leave no results changed: the four as they are, and crossed in the three ways.
FOUR_THE_SAME = [[0, 1, 2, 3], [1, 0, 3, 2], [2, 3, 0, 1], [3, 2, 1, 0]]


def results_of_all(sheet):
    return tuple(result_reached(sheet, pairing) for pairing in sorted(all_joinings(len(sheet) // 2)))


class Pairs(unittest.TestCase):
    def check_same(self, one, other):
        check_answer(self, do_same, True, one=one, other=other)
        check_answer(self, do_same, True, one=other, other=one)
        check_answer(self, parting, None, one=one, other=other)

    def check_parted(self, one, other):
        check_answer(self, do_same, False, one=one, other=other)
        check_answer(self, do_same, False, one=other, other=one)
        pairing = parting(one, other)
        self.check_parts(one, other, pairing)
        check_answer(self, parting, pairing, one=one, other=other)
        self.check_parts(one, other, parting(other, one))

    def check_parts(self, one, other, pairing):
        self.assertIs(pairing.__class__, tuple)
        self.assertEqual(len(pairing), len(one) // 2)
        self.assertTrue(all(x.__class__ is int for x in pairing))
        self.assertTrue(all(pairing[x] != x and pairing[pairing[x]] == x for x in range(len(pairing))))
        self.assertNotEqual(result_reached(one, pairing), result_reached(other, pairing))
        self.assertIs(shows_parting(one, other, pairing), True)


class FewPeople(Pairs):
    def test_all_pairs_of_sheets(self):
        for size in (2, 4):
            answers = {sheet: results_of_all(sheet) for sheet in all_joinings(2 * size)}
            for one in answers:
                for other in answers:
                    same = answers[one] == answers[other]
                    self.assertIs(do_same(one, other), same)
                    pairing = parting(one, other)
                    if same:
                        self.assertIsNone(pairing)
                    else:
                        self.assertNotEqual(result_reached(one, pairing), result_reached(other, pairing))

    def test_some_pairs_of_sheets(self):
        chance = fixed_chance(9)
        for size in (6, 8):
            for strands_many in range(0, size + 1, 2):
                for step in range(6):
                    one = some_sheet(chance, size, strands_many)
                    two_moved = with_strands_in_order(one, [1, 0] if strands_many else [])
                    others = [some_sheet(chance, size, strands_many), some_sheet(chance, size, 2), two_moved]
                    for other in others:
                        if results_of_all(one) == results_of_all(other):
                            self.check_same(one, other)
                        else:
                            self.check_parted(one, other)

    def test_sheets_of_six_that_answer_alike(self):
        chance = fixed_chance(91)
        by_results = {}
        for sheet in chance.sample(all_joinings(12), 500):
            by_results.setdefault(results_of_all(sheet), []).append(sheet)
        groups = list(by_results.values())
        for group in groups:
            for sheet in group:
                self.assertIs(do_same(group[0], sheet), True)
                self.assertIsNone(parting(group[0], sheet))
        for group, next_group in zip(groups, groups[1:]):
            self.assertIs(do_same(group[0], next_group[0]), False)


class ManyPeople(Pairs):
    def test_equal_sheets(self):
        chance = fixed_chance(92)
        for size in (2, 4, 6, 20):
            for strands_many in range(0, size + 1, 2):
                sheet = some_sheet(chance, size, strands_many)
                self.check_same(sheet, sheet)

    def test_four_strands(self):
        chance = fixed_chance(93)
        orders = [[a, b, c, d] for a in range(4) for b in range(4) for c in range(4) for d in range(4)
                  if len({a, b, c, d}) == 4]
        self.assertEqual(len(orders), 24)
        for size in (4, 6, 8, 20):
            one = some_sheet(chance, size, 4)
            for order in orders:
                other = with_strands_in_order(one, order)
                if order in FOUR_THE_SAME:
                    self.check_same(one, other)
                else:
                    self.check_parted(one, other)

    def test_more_strands_show_every_order(self):
        chance = fixed_chance(94)
        for size in (6, 8, 20):
            for strands_many in range(6, size + 1, 2):
                one = some_sheet(chance, size, strands_many)
                for order in FOUR_THE_SAME[1:] + [[1, 0], [1, 2, 0], [0, 2, 1, 4, 3]]:
                    self.check_parted(one, with_strands_in_order(one, order))

    def test_four_strands_with_other_pairs(self):
        chance = fixed_chance(95)
        for size in (8, 10, 20):
            for step in range(5):
                one = some_sheet(chance, size, 4)
                upper, lower, between = parts_of(one)
                (a, b), (c, d) = upper[:2]
                upper_moved = sheet_of_joins(size, [(a, c), (b, d)] + upper[2:], lower, between)
                (a, b), (c, d) = lower[:2]
                lower_moved = sheet_of_joins(size, upper, [(a, c), (b, d)] + lower[2:], between)
                for order in FOUR_THE_SAME:
                    self.check_parted(one, with_strands_in_order(upper_moved, order))
                    self.check_parted(one, with_strands_in_order(lower_moved, order))
                # An upper pair and a strand exchange an end; then the strands are crossed.
                (a, b), (x, y) = upper[0], between[0]
                moved = sheet_of_joins(size, [(min(a, x), max(a, x))] + upper[1:], lower, [(b, y)] + between[1:])
                self.check_parted(one, moved)
                self.check_parted(one, with_strands_in_order(moved, [1, 0, 3, 2]))

    def test_at_most_two_strands(self):
        chance = fixed_chance(96)
        for size in (2, 4, 6, 20):
            for step in range(10):
                only = some_joining(chance, size)
                pairs = [(x, y) for x, y in enumerate(only) if x < y]
                chance.shuffle(pairs)
                upper = [(x, y) for x, y in enumerate(some_joining(chance, size)) if x < y]
                closed = sheet_of_joins(size, upper, pairs, [])
                (a, b), (x, y) = upper[0], pairs[0]
                between = sheet_of_joins(size, upper[1:], pairs[1:], [(a, x), (b, y)])
                crossed = sheet_of_joins(size, upper[1:], pairs[1:], [(b, x), (a, y)])
                for one in (closed, between, crossed):
                    for other in (closed, between, crossed):
                        self.check_same(one, other)
                if size > 2:
                    (a, b), (c, d) = pairs[:2]
                    other_pairs = [(min(a, c), max(a, c)), (min(b, d), max(b, d))] + pairs[2:]
                    self.check_parted(closed, sheet_of_joins(size, upper, other_pairs, []))
                    self.check_parted(between, sheet_of_joins(size, upper, other_pairs, []))

    def test_different_numbers_of_strands(self):
        chance = fixed_chance(97)
        for size in (4, 6, 20):
            for first in range(0, size + 1, 2):
                for second in range(4, size + 1, 2):
                    if first != second:
                        self.check_parted(some_sheet(chance, size, first), some_sheet(chance, size, second))

    def test_sheets_of_words(self):
        chance = fixed_chance(98)
        for size in (2, 4, 6, 12, 20):
            for step in range(20):
                word = some_word(chance, size, chance.randrange(1, 8))
                one, other = sheet_of(size, word), sheet_of(size, word[1:])
                if parting(one, other) is not None:
                    self.check_parted(one, other)
                    continue
                self.check_same(one, other)
                for pairing in [some_joining(chance, size) for trial in range(50)]:
                    self.assertEqual(result_reached(one, pairing), result_reached(other, pairing))

    def test_one_call_of_20_people(self):
        for call in ((0, 1), (0, 19), (18, 19), (7, 12)):
            self.check_parted(empty_sheet(20), sheet_of(20, [call]))
            self.check_parted(sheet_of(20, [(3, 9)]), sheet_of(20, [call]))

    def test_answers(self):
        self.check_same(ONE, (4, 5, 3, 2, 0, 1, 7, 6))
        self.check_same(ONE, (5, 4, 3, 2, 1, 0, 7, 6))
        self.check_same(empty_sheet(4), (5, 4, 7, 6, 1, 0, 3, 2))
        self.check_parted(empty_sheet(4), (5, 4, 6, 7, 1, 0, 2, 3))
        self.check_parted(WIDE, WIDE_ELSEWHERE)
        self.check_parted(empty_sheet(6), sheet_of_strands([1, 0, 3, 2, 4, 5]))


class ShowsParting(unittest.TestCase):
    def test_all_pairings_of_few_people(self):
        chance = fixed_chance(99)
        for size in (2, 4, 6):
            pairings = all_joinings(size)
            for step in range(20):
                one = some_sheet(chance, size, 2 * chance.randrange(size // 2 + 1))
                other = some_sheet(chance, size, 2 * chance.randrange(size // 2 + 1))
                for pairing in pairings:
                    expected = result_reached(one, pairing) != result_reached(other, pairing)
                    self.assertIs(shows_parting(one, other, pairing), expected)

    def test_answers(self):
        value = (4, 2, 1, 5, 0, 3)
        check_answer(self, shows_parting, True, one=WIDE, other=WIDE_ELSEWHERE, value=value)
        check_answer(self, shows_parting, False, one=WIDE, other=WIDE_ELSEWHERE, value=list(value))
        check_answer(self, shows_parting, False, one=WIDE, other=WIDE, value=value)
        check_answer(self, shows_parting, False, one=WIDE, other=WIDE_ELSEWHERE, value=(1, 0, 3, 2, 5, 4))
        check_answer(self, shows_parting, False, one=WIDE, other=WIDE_ELSEWHERE, value=parting(WIDE, WIDE))

    def test_true_and_false_are_no_people(self):
        for value in ((4, 2, True, 5, 0, 3), (4, 2, 1, 5, False, 3), (4, 2, 1, 5, "0", 3), (4, 2, 1, 5, None, 3)):
            check_answer(self, shows_parting, False, one=WIDE, other=WIDE_ELSEWHERE, value=value)

    def test_other_numbers_of_people(self):
        for value in ((1, 0), (2, 3, 0, 1), (4, 2, 1, 5, 0, 3, 7, 6), tuple(reversed(range(20)))):
            check_answer(self, shows_parting, False, one=WIDE, other=WIDE_ELSEWHERE, value=value)
        large = tuple(x + 1 - 2 * (x % 2) for x in range(100000))
        self.assertIs(shows_parting(WIDE, WIDE_ELSEWHERE, large), False)

    def test_odd_values(self):
        for value in ODD_VALUES + [10 ** 5000, (10 ** 5000,) * 6]:
            self.assertIs(shows_parting(WIDE, WIDE_ELSEWHERE, value), False)
            self.assertIs(shows_parting(one=WIDE, other=WIDE_ELSEWHERE, value=value), False)


class OtherSizes(unittest.TestCase):
    def test_other_size(self):
        for first, second in ((2, 4), (4, 2), (20, 18), (2, 20)):
            one, other = empty_sheet(first), empty_sheet(second)
            check_error(self, do_same, OtherSize, {"size": second}, one=one, other=other)
            check_error(self, parting, OtherSize, {"size": second}, one=one, other=other)
            for value in (None, [], (1, 0), (2, 3, 0, 1), "1", 10 ** 30, [[[[[[[[1]]]]]]]]):
                check_error(self, shows_parting, OtherSize, {"size": second}, one=one, other=other, value=value)


if __name__ == "__main__":
    unittest.main()
