"""Point [7]: reading a sheet, compared with calls done one by one and with what is reached along joins and couples."""

import unittest

from partnercall.errors import NoPerson, OtherSize
from partnercall.reading import couples_on, path, result, shows_path
from partnercall.sheets import empty_sheet, sheet_of
from support import (
    ODD_VALUES, all_joinings, along_one_by_one, as_tuples, check_answer, check_error, check_great, ends_reached,
    fixed_chance, result_reached, some_joining, some_sheet, some_word, swapped,
)

Q = (2, 3, 0, 1)
ONE = (1, 0, 6, 7, 5, 4, 2, 3)
OTHER_PEOPLE = (-1, -4, 4, 5, 8, 10 ** 30, -10 ** 30)


def some_readings():
    """Sheets with pairings: all of two people, many of four, some of more."""
    found = [(sheet, (1, 0)) for sheet in all_joinings(4)]
    chance = fixed_chance(7)
    for sheet in all_joinings(8):
        found.append((sheet, some_joining(chance, 4)))
    for size in (6, 8, 20):
        for strands_many in range(0, size + 1, 2):
            found.append((some_sheet(chance, size, strands_many), some_joining(chance, size)))
    return found


def couples_reached(sheet, pairing, person):
    """The couples of which both upper ends are reached from a person's lower end."""
    reached = ends_reached(sheet, pairing, person)
    return [(x, y) for x, y in enumerate(pairing) if x < y and x in reached and y in reached]


class Result(unittest.TestCase):
    def test_answers(self):
        check_answer(self, result, (1, 0, 3, 2), sheet=ONE, pairing=Q)
        check_answer(self, result, (1, 0), sheet=(2, 3, 0, 1), pairing=(1, 0))
        check_answer(self, result, (1, 0), sheet=(1, 0, 3, 2), pairing=(1, 0))
        check_answer(self, result, (3, 2, 1, 0), sheet=(1, 0, 4, 7, 2, 6, 5, 3), pairing=Q)

    def test_empty_sheet_changes_nothing(self):
        for size in (2, 4, 6, 8):
            for pairing in all_joinings(size):
                self.assertEqual(result(empty_sheet(size), pairing), pairing)

    def test_calls_one_by_one(self):
        # Guarantee (a): the sheet of a word gives its result for every pairing.
        chance = fixed_chance(71)
        for size in (2, 4, 6, 20):
            for length in (0, 1, 2, 3, 7, 30):
                for step in range(5):
                    word, pairing = some_word(chance, size, length), some_joining(chance, size)
                    expected = along_one_by_one(pairing, word)[-1]
                    check_answer(self, result, expected, sheet=sheet_of(size, word), pairing=pairing)

    def test_calls_one_by_one_for_all_pairings(self):
        chance = fixed_chance(72)
        for size in (2, 4, 6):
            for step in range(20):
                word = some_word(chance, size, chance.randrange(6))
                sheet = sheet_of(size, word)
                for pairing in all_joinings(size):
                    self.assertEqual(result(sheet, pairing), along_one_by_one(pairing, word)[-1])

    def test_1000_calls(self):
        chance = fixed_chance(73)
        word, pairing = some_word(chance, 20, 1000), some_joining(chance, 20)
        check_answer(self, result, along_one_by_one(pairing, word)[-1], sheet=sheet_of(20, word), pairing=pairing)

    def test_sheets_of_no_word_too(self):
        for sheet, pairing in some_readings():
            check_answer(self, result, result_reached(sheet, pairing), sheet=sheet, pairing=pairing)

    def test_other_size(self):
        for first, second in ((2, 4), (4, 2), (4, 8), (20, 18)):
            pairing = tuple(reversed(range(second)))
            check_error(self, result, OtherSize, {"size": second}, sheet=empty_sheet(first), pairing=pairing)


class Path(unittest.TestCase):
    def test_answers(self):
        check_answer(self, path, [6, 2, 0, 1, 3, 7], sheet=ONE, pairing=Q, person=2)
        check_answer(self, path, [7, 3, 1, 0, 2, 6], sheet=ONE, pairing=Q, person=3)
        check_answer(self, path, [4, 5], sheet=ONE, pairing=Q, person=0)
        check_answer(self, path, [2, 0, 1, 3], sheet=(2, 3, 0, 1), pairing=(1, 0), person=0)

    def test_a_join_beside_a_couple_is_on_no_path(self):
        check_answer(self, path, [6, 2, 3, 7], sheet=ONE, pairing=(1, 0, 3, 2), person=2)
        check_answer(self, couples_on, [(2, 3)], sheet=ONE, pairing=(1, 0, 3, 2), person=2)

    def test_ends_reached(self):
        for sheet, pairing in some_readings():
            for person in range(len(pairing)):
                expected = ends_reached(sheet, pairing, person)
                check_answer(self, path, expected, sheet=sheet, pairing=pairing, person=person)

    def test_last_end_is_the_partner(self):
        for sheet, pairing in some_readings():
            partners = [path(sheet, pairing, person)[-1] - len(pairing) for person in range(len(pairing))]
            self.assertEqual(result(sheet, pairing), tuple(partners))

    def test_errors(self):
        for function in (path, couples_on):
            for person in OTHER_PEOPLE:
                check_error(self, function, NoPerson, {"person": person}, sheet=ONE, pairing=Q, person=person)
                check_error(self, function, OtherSize, {"size": 2}, sheet=ONE, pairing=(1, 0), person=person)
            check_error(self, function, OtherSize, {"size": 4}, sheet=(1, 0, 3, 2), pairing=Q, person=0)
            for great in (10 ** 5000, -10 ** 5000):
                check_great(self, function, NoPerson, "person", great, sheet=ONE, pairing=Q, person=great)


class ShowsPath(unittest.TestCase):
    def check(self, expected, person, value, sheet=ONE, pairing=Q):
        check_answer(self, shows_path, expected, sheet=sheet, pairing=pairing, person=person, value=value)

    def test_only_the_path(self):
        self.check(True, 2, [6, 2, 0, 1, 3, 7])
        self.check(True, 0, [4, 5])
        for value in ((6, 2, 0, 1, 3, 7), [6, 2, 0, 1, 3], [6, 2, 0, 1, 3, 7, 7], [7, 3, 1, 0, 2, 6], [4, 5], [],
                      [6, 2, False, 1, 3, 7], [6, 2, 0, True, 3, 7], [6, 2, "0", 1, 3, 7], [6, 2, None, 1, 3, 7],
                      [[6, 2, 0, 1, 3, 7]], [(6, 2, 0, 1, 3, 7)], [6, [2], 0, 1, 3, 7], "[6, 2, 0, 1, 3, 7]", 6,
                      [6, 2, 0, 1, 3, -1], [6, 2, 0, 1, 3, 10 ** 30]):
            with self.subTest(value=value):
                self.check(False, 2, value)

    def test_great_integers(self):
        self.assertIs(shows_path(ONE, Q, 2, [6, 2, 0, 1, 3, 10 ** 5000]), False)
        self.assertIs(shows_path(ONE, Q, 2, -10 ** 5000), False)

    def test_odd_values(self):
        for value in ODD_VALUES:
            for person in range(4):
                self.check(False, person, value)

    def test_paths_and_others(self):
        for sheet, pairing in some_readings():
            for person in (0, len(pairing) - 1):
                ends = ends_reached(sheet, pairing, person)
                self.assertIs(shows_path(sheet, pairing, person, ends), True)
                self.assertIs(shows_path(sheet, pairing, person, swapped(ends)), False)
                self.assertIs(shows_path(sheet, pairing, person, ends[::-1]), False)
                self.assertIs(shows_path(sheet, pairing, person, ends[:-1]), False)

    def test_true_and_false_are_no_ends(self):
        self.assertIs(shows_path((2, 3, 0, 1), (1, 0), 0, [2, 0, 1, 3]), True)
        for value in ([2, False, 1, 3], [2, 0, True, 3], [2, False, True, 3]):
            self.assertIs(shows_path((2, 3, 0, 1), (1, 0), 0, value), False)

    def test_any_size(self):
        self.assertIs(shows_path(ONE, Q, 2, [6, 2, 0, 1, 3, 7] * 20000), False)

    def test_errors_whatever_the_value(self):
        for value in (None, [4, 5], as_tuples([4, 5]), [[[[[[[[1]]]]]]]], 10 ** 30):
            for person in OTHER_PEOPLE:
                check_error(self, shows_path, NoPerson, {"person": person},
                            sheet=ONE, pairing=Q, person=person, value=value)
                check_error(self, shows_path, OtherSize, {"size": 6},
                            sheet=ONE, pairing=(1, 0, 3, 2, 5, 4), person=person, value=value)
        for great in (10 ** 5000, -10 ** 5000):
            check_great(self, shows_path, NoPerson, "person", great, sheet=ONE, pairing=Q, person=great, value=None)


class CouplesOn(unittest.TestCase):
    def test_answers(self):
        check_answer(self, couples_on, [(0, 2), (1, 3)], sheet=ONE, pairing=Q, person=2)
        check_answer(self, couples_on, [(0, 2), (1, 3)], sheet=ONE, pairing=Q, person=3)
        check_answer(self, couples_on, [], sheet=ONE, pairing=Q, person=1)

    def test_couples_reached(self):
        for sheet, pairing in some_readings():
            for person in range(len(pairing)):
                expected = couples_reached(sheet, pairing, person)
                check_answer(self, couples_on, expected, sheet=sheet, pairing=pairing, person=person)


if __name__ == "__main__":
    unittest.main()
