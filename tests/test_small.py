"""Point [14]: small searches, compared with all words of few calls."""

import itertools
import unittest

from partnercall.errors import TooMany
from partnercall.small import MOST_PEOPLE, all_sheets, first_word, words_with
from support import (
    all_calls, all_joinings, check_answer, check_error, check_great, fixed_chance, lower_pairs_of, sheet_one_by_one,
    sheet_one_call, some_sheet,
)

ONE = (1, 0, 6, 7, 5, 4, 2, 3)
EMPTY = (4, 5, 6, 7, 0, 1, 2, 3)


def all_words(size, many):
    """All words of so many calls, in ascending order."""
    return [list(word) for word in itertools.product(all_calls(size), repeat=many)]


def first_by_trying(size, longest):
    """To each sheet of a word of at most so many calls the first of its shortest words."""
    found = {}
    for many in range(longest + 1):
        for word in all_words(size, many):
            found.setdefault(sheet_one_by_one(size, word), word)
    return found


class Small(unittest.TestCase):
    def test_most_people(self):
        self.assertEqual(repr(MOST_PEOPLE), "4")

    def test_all_sheets(self):
        check_answer(self, all_sheets, [(1, 0, 3, 2), (2, 3, 0, 1)], size=2)
        found = all_sheets(4)
        check_answer(self, all_sheets, found, size=4)
        self.assertEqual(len(found), 82)
        self.assertEqual(found, sorted(first_by_trying(4, 5)))
        self.assertEqual(found, [sheet for sheet in sorted(all_joinings(8)) if lower_pairs_of(sheet) or sheet == EMPTY])
        self.assertTrue(all(sheet.__class__ is tuple for sheet in found))

    def test_first_word(self):
        for size, longest in ((2, 3), (4, 5)):
            found = first_by_trying(size, longest)
            for sheet in all_joinings(2 * size):
                expected = found.get(sheet)
                check_answer(self, first_word, expected, sheet=sheet)
        check_answer(self, first_word, [], sheet=EMPTY)
        check_answer(self, first_word, None, sheet=(5, 4, 6, 7, 1, 0, 2, 3))

    def test_words_with_few_calls(self):
        for size, longest in ((2, 4), (4, 5)):
            for many in range(longest + 1):
                counted = {}
                for word in all_words(size, many):
                    sheet = sheet_one_by_one(size, word)
                    counted[sheet] = counted.get(sheet, 0) + 1
                for sheet in all_joinings(2 * size)[::1 if many < 4 else 6]:
                    self.assertEqual(words_with(sheet, many), counted.get(sheet, 0))

    def test_words_with_many_calls(self):
        # Counted the other way round: the words that lead on from each sheet to one sheet.
        target = sheet_one_by_one(4, [(0, 1), (1, 2)])
        sheets = all_sheets(4)
        ways = {sheet: int(sheet == target) for sheet in sheets}
        for many in range(21):
            check_answer(self, words_with, ways[EMPTY], sheet=target, many=many)
            ways = {sheet: sum(ways[sheet_one_call(sheet, call)] for call in all_calls(4)) for sheet in sheets}

    def test_all_words_are_counted(self):
        for many in (0, 1, 7, 20):
            self.assertEqual(sum(words_with(sheet, many) for sheet in all_joinings(8)), 6 ** many)
            self.assertEqual(sum(words_with(sheet, many) for sheet in all_joinings(4)), 1)

    def test_answers(self):
        check_answer(self, words_with, 1, sheet=ONE, many=1)
        check_answer(self, words_with, 1, sheet=ONE, many=2)
        check_answer(self, words_with, 0, sheet=ONE, many=0)
        check_answer(self, words_with, 1, sheet=EMPTY, many=0)
        check_answer(self, words_with, 0, sheet=EMPTY, many=1)
        check_answer(self, words_with, 0, sheet=EMPTY, many=20)
        check_answer(self, words_with, 1, sheet=(1, 0, 3, 2), many=20)
        check_answer(self, words_with, 0, sheet=(3, 2, 1, 0), many=20)

    def test_too_many(self):
        chance = fixed_chance(14)
        for size in (6, 8, 20, 22, 1000):
            check_error(self, all_sheets, TooMany, {"size": size}, size=size)
        check_great(self, all_sheets, TooMany, "size", 10 ** 5000, size=10 ** 5000)
        for size in (6, 8, 20):
            for strands_many in (0, 4, size):
                sheet = some_sheet(chance, size, strands_many)
                check_error(self, first_word, TooMany, {"size": size}, sheet=sheet)
                for many in (0, 1, 20):
                    check_error(self, words_with, TooMany, {"size": size}, sheet=sheet, many=many)


if __name__ == "__main__":
    unittest.main()
