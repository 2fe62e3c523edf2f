"""Point [8]: results and beginnings, compared with the results of all pairings of few people."""

import unittest

from partnercall.errors import NoNumber, NotResult, OtherSize
from partnercall.results import (
    beginning_at, beginning_number, beginnings_many, result_at, result_bar, result_number, results_many,
)
from partnercall.sheets import empty_sheet
from support import (
    all_joinings, check_answer, check_error, check_great, fixed_chance, lower_pairs_of, result_reached, some_joining,
    some_sheet,
)

ONE = (1, 0, 6, 7, 5, 4, 2, 3)
WIDE = (1, 0, 8, 9, 10, 11, 7, 6, 2, 3, 4, 5)
SIX = (1, 0, 3, 2, 5, 4)
NO_RESULT = (2, 3, 0, 1, 5, 4)
# 1 * 3 * .. * (size - 1), for size people or so many strands.
MANY = {0: 1, 2: 1, 4: 3, 6: 15, 8: 105, 10: 945, 12: 10395, 14: 135135, 16: 2027025, 18: 34459425, 20: 654729075}


def beginnings_by_result(sheet):
    """The results of all pairings: to each result the ascending list of its beginnings."""
    found = {}
    for pairing in sorted(all_joinings(len(sheet) // 2)):
        found.setdefault(result_reached(sheet, pairing), []).append(pairing)
    return found


def small_sheets():
    """All sheets of two and four people, and some of six and eight."""
    chance = fixed_chance(8)
    found = all_joinings(4) + all_joinings(8)
    for strands_many in range(0, 7, 2):
        found += [some_sheet(chance, 6, strands_many) for step in range(15)]
    for strands_many in range(0, 9, 2):
        found += [some_sheet(chance, 8, strands_many) for step in range(2)]
    return found


def first_bar(sheet, pairing):
    return next(((x, y) for x, y in lower_pairs_of(sheet) if pairing[x] != y), None)


class Results(unittest.TestCase):
    def test_all_results_of_few_people(self):
        for sheet in small_sheets():
            ascending = sorted(beginnings_by_result(sheet))
            check_answer(self, results_many, len(ascending), sheet=sheet)
            self.assertEqual([result_at(sheet, number) for number in range(len(ascending))], ascending)
            self.assertEqual([result_number(sheet, pairing) for pairing in ascending], list(range(len(ascending))))
            for number in (-1, len(ascending)):
                check_error(self, result_at, NoNumber, {"number": number}, sheet=sheet, number=number)

    def test_as_many_as_the_strands_tell(self):
        # Guarantee (b).
        chance = fixed_chance(81)
        for size in (2, 4, 6, 20):
            for strands_many in range(0, size + 1, 2):
                check_answer(self, results_many, MANY[strands_many], sheet=some_sheet(chance, size, strands_many))

    def test_answers(self):
        check_answer(self, results_many, 1, sheet=ONE)
        check_answer(self, results_many, 3, sheet=WIDE)
        check_answer(self, result_at, (1, 0, 4, 5, 2, 3), sheet=WIDE, number=1)
        check_answer(self, result_at, (1, 0), sheet=(1, 0, 3, 2), number=0)
        check_answer(self, result_at, (1, 0, 3, 2), sheet=ONE, number=0)
        check_answer(self, result_number, 2, sheet=WIDE, pairing=(1, 0, 5, 4, 3, 2))
        check_answer(self, result_number, 0, sheet=(1, 0, 3, 2), pairing=(1, 0))

    def test_20_people(self):
        chance = fixed_chance(82)
        for strands_many in range(0, 21, 2):
            sheet = some_sheet(chance, 20, strands_many)
            many = MANY[strands_many]
            for number in {0, many - 1, many // 2, chance.randrange(many)}:
                pairing = result_at(sheet, number)
                self.assertIsNone(first_bar(sheet, pairing))
                check_answer(self, result_at, pairing, sheet=sheet, number=number)
                check_answer(self, result_number, number, sheet=sheet, pairing=pairing)
                if number + 1 < many:
                    self.assertLess(pairing, result_at(sheet, number + 1))

    def test_result_of_any_pairing_has_its_number(self):
        chance = fixed_chance(83)
        for strands_many in range(0, 21, 2):
            sheet = some_sheet(chance, 20, strands_many)
            pairing = result_reached(sheet, some_joining(chance, 20))
            self.assertEqual(result_at(sheet, result_number(sheet, pairing)), pairing)

    def test_no_number(self):
        for number in (-1, -3, 3, 4, 15, 10 ** 30, -10 ** 30):
            check_error(self, result_at, NoNumber, {"number": number}, sheet=WIDE, number=number)
        for great in (10 ** 5000, -10 ** 5000):
            check_great(self, result_at, NoNumber, "number", great, sheet=WIDE, number=great)


class Bars(unittest.TestCase):
    def test_answers(self):
        check_answer(self, result_bar, (0, 1), sheet=WIDE, pairing=NO_RESULT)
        check_answer(self, result_bar, None, sheet=WIDE, pairing=SIX)
        check_answer(self, result_bar, None, sheet=empty_sheet(6), pairing=NO_RESULT)

    def test_all_pairings_of_few_people(self):
        for sheet in small_sheets():
            results = beginnings_by_result(sheet)
            for pairing in all_joinings(len(sheet) // 2):
                bar = first_bar(sheet, pairing)
                self.assertEqual(bar is None, pairing in results)
                self.assertEqual(result_bar(sheet, pairing), bar)

    def test_first_of_several(self):
        sheet = (1, 0, 3, 2, 7, 6, 5, 4)
        check_answer(self, result_bar, (0, 3), sheet=sheet, pairing=(1, 0, 3, 2))
        check_answer(self, result_bar, None, sheet=sheet, pairing=(3, 2, 1, 0))
        sheet = (1, 0, 3, 2, 5, 4, 7, 6, 9, 8, 11, 10)
        check_answer(self, result_bar, (2, 3), sheet=sheet, pairing=(1, 0, 4, 5, 2, 3))

    def test_no_result(self):
        chance = fixed_chance(84)
        sheets = [WIDE] + [some_sheet(chance, size, size - 4) for size in (6, 20) for step in range(5)]
        for sheet in sheets:
            pairing = some_joining(chance, len(sheet) // 2)
            bar = first_bar(sheet, pairing)
            if bar is None:
                continue
            check_answer(self, result_bar, bar, sheet=sheet, pairing=pairing)
            check_answer(self, beginnings_many, 0, sheet=sheet, pairing=pairing)
            check_error(self, result_number, NotResult, {"pair": bar}, sheet=sheet, pairing=pairing)
            for number in (0, -1, 10 ** 30):
                check_error(self, beginning_at, NotResult, {"pair": bar}, sheet=sheet, pairing=pairing, number=number)

    def test_no_result_before_no_number(self):
        for great in (10 ** 5000, -10 ** 5000):
            check_great(self, beginning_at, NotResult, "pair", (0, 1), sheet=WIDE, pairing=NO_RESULT, number=great)


class Beginnings(unittest.TestCase):
    def test_all_beginnings_of_few_people(self):
        for sheet in small_sheets():
            for pairing, ascending in beginnings_by_result(sheet).items():
                many = len(ascending)
                self.assertEqual(beginnings_many(sheet, pairing), many)
                self.assertEqual([beginning_at(sheet, pairing, number) for number in range(many)], ascending)
                self.assertEqual([beginning_number(sheet, found) for found in ascending], list(range(many)))

    def test_each_result_has_as_many(self):
        # Guarantee (b).
        chance = fixed_chance(85)
        for size in (2, 4, 6, 20):
            for strands_many in range(0, size + 1, 2):
                sheet = some_sheet(chance, size, strands_many)
                pairing = result_reached(sheet, some_joining(chance, size))
                expected = MANY[size] // MANY[strands_many]
                check_answer(self, beginnings_many, expected, sheet=sheet, pairing=pairing)

    def test_answers(self):
        check_answer(self, beginnings_many, 5, sheet=WIDE, pairing=SIX)
        check_answer(self, beginnings_many, 0, sheet=WIDE, pairing=NO_RESULT)
        check_answer(self, beginning_at, (4, 5, 3, 2, 0, 1), sheet=WIDE, pairing=SIX, number=3)
        check_answer(self, beginning_number, 3, sheet=WIDE, beginning=(4, 5, 3, 2, 0, 1))
        check_answer(self, beginning_at, (1, 0), sheet=(1, 0, 3, 2), pairing=(1, 0), number=0)
        check_answer(self, beginning_number, 0, sheet=(1, 0, 3, 2), beginning=(1, 0))

    def test_20_people(self):
        chance = fixed_chance(86)
        for strands_many in range(0, 21, 2):
            sheet = some_sheet(chance, 20, strands_many)
            pairing = result_reached(sheet, some_joining(chance, 20))
            many = MANY[20] // MANY[strands_many]
            for number in {0, many - 1, many // 2, chance.randrange(many)}:
                found = beginning_at(sheet, pairing, number)
                self.assertEqual(result_reached(sheet, found), pairing)
                check_answer(self, beginning_at, found, sheet=sheet, pairing=pairing, number=number)
                check_answer(self, beginning_number, number, sheet=sheet, beginning=found)
                if number + 1 < many:
                    self.assertLess(found, beginning_at(sheet, pairing, number + 1))

    def test_any_pairing_has_its_number(self):
        chance = fixed_chance(87)
        for strands_many in range(0, 21, 2):
            sheet, found = some_sheet(chance, 20, strands_many), some_joining(chance, 20)
            number = beginning_number(sheet, found)
            self.assertEqual(beginning_at(sheet, result_reached(sheet, found), number), found)

    def test_empty_sheet_has_one_beginning(self):
        for pairing in all_joinings(6):
            self.assertEqual(beginning_at(empty_sheet(6), pairing, 0), pairing)
            check_error(self, beginning_at, NoNumber, {"number": 1},
                        sheet=empty_sheet(6), pairing=pairing, number=1)

    def test_no_number(self):
        for number in (-1, -5, 5, 6, 15, 10 ** 30, -10 ** 30):
            check_error(self, beginning_at, NoNumber, {"number": number}, sheet=WIDE, pairing=SIX, number=number)
        for great in (10 ** 5000, -10 ** 5000):
            check_great(self, beginning_at, NoNumber, "number", great, sheet=WIDE, pairing=SIX, number=great)


class OtherSizes(unittest.TestCase):
    def test_before_any_other_error(self):
        for sheet in (WIDE, (1, 0, 3, 2), empty_sheet(20)):
            for pairing in ((2, 3, 0, 1), (7, 6, 5, 4, 3, 2, 1, 0), tuple(reversed(range(18)))):
                size = {"size": len(pairing)}
                for function in (result_bar, result_number, beginnings_many):
                    check_error(self, function, OtherSize, size, sheet=sheet, pairing=pairing)
                check_error(self, beginning_number, OtherSize, size, sheet=sheet, beginning=pairing)
                for number in (0, -1, 10 ** 30):
                    check_error(self, beginning_at, OtherSize, size, sheet=sheet, pairing=pairing, number=number)


if __name__ == "__main__":
    unittest.main()
