"""Point [15]: other people."""

import itertools
import unittest

from partnercall.errors import Last, NoPerson
from partnercall.people import joined, renumbered, sheet_renumbered, sheets_joined, without, word_renumbered
from support import (
    all_joinings, along_one_by_one, check_answer, check_error, check_great, fixed_chance, parts_of, result_reached,
    sheet_of_joins, sheet_one_by_one, some_joining, some_sheet, some_word, without_couple,
)

P = (1, 0, 3, 2)
Q = (2, 3, 0, 1)
SIX = (1, 0, 3, 2, 5, 4)
ONE = (1, 0, 6, 7, 5, 4, 2, 3)
GREAT = 10 ** 5000


def some_numbers(chance, size):
    numbers = list(range(size))
    chance.shuffle(numbers)
    return tuple(numbers)


def pairing_of_couples(couples):
    partner = {}
    for x, y in couples:
        partner[x], partner[y] = y, x
    return tuple(partner[x] for x in range(len(partner)))


def pairing_with_numbers(pairing, numbers):
    return pairing_of_couples([(numbers[x], numbers[y]) for x, y in enumerate(pairing)])


def word_with_numbers(word, numbers):
    return [tuple(sorted((numbers[a], numbers[b]))) for a, b in word]


def sheet_with_numbers(sheet, numbers):
    upper, lower, between = ([(numbers[x], numbers[y]) for x, y in part] for part in parts_of(sheet))
    return sheet_of_joins(len(sheet) // 2, upper, lower, between)


def sheets_beside(one, other):
    """Both sheets as one, from their pairs and strands."""
    first = len(one) // 2
    behind = [[(first + x, first + y) for x, y in part] for part in parts_of(other)]
    return sheet_of_joins(first + len(other) // 2, *[part + more for part, more in zip(parts_of(one), behind)])


class Renumbered(unittest.TestCase):
    def test_answers(self):
        check_answer(self, renumbered, (3, 2, 1, 0), pairing=Q, numbers=(1, 0, 2, 3))
        check_answer(self, word_renumbered, [(2, 3)], word=[(0, 2)], numbers=(3, 1, 2, 0))
        check_answer(self, word_renumbered, [], word=[], numbers=(1, 0))
        check_answer(self, word_renumbered, [(0, 1), (0, 1)], word=[(0, 1), (0, 1)], numbers=(1, 0))
        check_answer(self, sheet_renumbered, (4, 5, 3, 2, 0, 1, 7, 6), sheet=ONE, numbers=(2, 3, 0, 1))

    def test_all_numbers_of_four_people(self):
        for numbers in itertools.permutations(range(4)):
            for pairing in all_joinings(4):
                self.assertEqual(renumbered(pairing, numbers), pairing_with_numbers(pairing, numbers))
            for sheet in all_joinings(8):
                self.assertEqual(sheet_renumbered(sheet, numbers), sheet_with_numbers(sheet, numbers))

    def test_many_people(self):
        chance = fixed_chance(15)
        for size in (2, 6, 20):
            for strands_many in range(0, size + 1, 2):
                numbers, pairing = some_numbers(chance, size), some_joining(chance, size)
                sheet, word = some_sheet(chance, size, strands_many), some_word(chance, size, 12)
                check_answer(self, renumbered, pairing_with_numbers(pairing, numbers), pairing=pairing, numbers=numbers)
                check_answer(self, word_renumbered, word_with_numbers(word, numbers), word=word, numbers=numbers)
                check_answer(self, sheet_renumbered, sheet_with_numbers(sheet, numbers), sheet=sheet, numbers=numbers)

    def test_all_three_belong_together(self):
        chance = fixed_chance(151)
        for size in (2, 4, 6, 20):
            for step in range(10):
                numbers, pairing = some_numbers(chance, size), some_joining(chance, size)
                word = some_word(chance, size, 9)
                new_word = word_renumbered(word, numbers)
                new_sheet = sheet_renumbered(sheet_one_by_one(size, word), numbers)
                self.assertEqual(sheet_one_by_one(size, new_word), new_sheet)
                new = renumbered(along_one_by_one(pairing, word)[-1], numbers)
                self.assertEqual(along_one_by_one(renumbered(pairing, numbers), new_word)[-1], new)
                self.assertEqual(result_reached(new_sheet, renumbered(pairing, numbers)), new)

    def test_no_person(self):
        numbers = (3, 1, 2, 0)
        for word, person in (([(0, 4)], 4), ([(-1, 3)], -1), ([(0, 1), (5, 6)], 5), ([(0, 1), (2, 9), (-1, 9)], 9)):
            check_error(self, word_renumbered, NoPerson, {"person": person}, word=word, numbers=numbers)
        for great in (GREAT, -GREAT):
            word = [(min(0, great), max(0, great))]
            check_great(self, word_renumbered, NoPerson, "person", great, word=word, numbers=numbers)


class Joined(unittest.TestCase):
    def test_answers(self):
        check_answer(self, joined, SIX, one=P, other=(1, 0))
        check_answer(self, joined, (1, 0, 4, 5, 2, 3), one=(1, 0), other=Q)
        check_answer(self, sheets_joined, (4, 5, 3, 2, 0, 1, 7, 6), one=(2, 3, 0, 1), other=(1, 0, 3, 2))
        check_answer(self, sheets_joined, (1, 0, 6, 7, 5, 4, 2, 3), one=(1, 0, 3, 2), other=(2, 3, 0, 1))

    def test_all_sizes(self):
        chance = fixed_chance(152)
        for first in (2, 4, 6, 14, 20):
            for second in (2, 4, 6, 18, 20):
                one, other = some_joining(chance, first), some_joining(chance, second)
                both = [(x, y) for x, y in enumerate(one)] + [(first + x, first + y) for x, y in enumerate(other)]
                check_answer(self, joined, pairing_of_couples(both), one=one, other=other)
                above = some_sheet(chance, first, 2 * chance.randrange(first // 2 + 1))
                below = some_sheet(chance, second, 2 * chance.randrange(second // 2 + 1))
                check_answer(self, sheets_joined, sheets_beside(above, below), one=above, other=below)

    def test_both_belong_together(self):
        chance = fixed_chance(153)
        for first, second in ((2, 2), (2, 6), (6, 4), (20, 20)):
            one, other = some_joining(chance, first), some_joining(chance, second)
            word, more = some_word(chance, first, 5), some_word(chance, second, 5)
            sheet = sheets_joined(sheet_one_by_one(first, word), sheet_one_by_one(second, more))
            behind = [(first + a, first + b) for a, b in more]
            self.assertEqual(sheet, sheet_one_by_one(first + second, word + behind))
            expected = joined(along_one_by_one(one, word)[-1], along_one_by_one(other, more)[-1])
            self.assertEqual(result_reached(sheet, joined(one, other)), expected)


class Without(unittest.TestCase):
    def test_answers(self):
        check_answer(self, without, Q, pairing=(3, 4, 5, 0, 1, 2), person=1)
        check_answer(self, without, (1, 0), pairing=P, person=0)
        check_answer(self, without, (1, 0), pairing=Q, person=3)

    def test_everybody(self):
        chance = fixed_chance(154)
        pairings = all_joinings(4) + all_joinings(6) + [some_joining(chance, 20) for step in range(3)]
        for pairing in pairings:
            for person in range(len(pairing)):
                expected = without_couple(pairing, person)
                check_answer(self, without, expected, pairing=pairing, person=person)
                self.assertEqual(without(pairing, pairing[person]), expected)

    def test_who_came_last_leaves(self):
        for pairing in all_joinings(6):
            self.assertEqual(without(joined(pairing, (1, 0)), 7), pairing)
            self.assertEqual(without(joined((1, 0), pairing), 0), pairing)

    def test_errors(self):
        for person in (-1, -4, 4, 5, 10 ** 30, -10 ** 30):
            check_error(self, without, NoPerson, {"person": person}, pairing=P, person=person)
        # NoPerson comes before Last.
        for person in (-1, -2, 2, 10 ** 30):
            check_error(self, without, NoPerson, {"person": person}, pairing=(1, 0), person=person)
        for person in (0, 1):
            check_error(self, without, Last, {}, pairing=(1, 0), person=person)
        for great in (GREAT, -GREAT):
            check_great(self, without, NoPerson, "person", great, pairing=P, person=great)
            check_great(self, without, NoPerson, "person", great, pairing=(1, 0), person=great)


if __name__ == "__main__":
    unittest.main()
