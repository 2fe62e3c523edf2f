"""Point [12]: the fewest calls with a sheet, compared with searches over all words of few people."""

import unittest

from partnercall.errors import NoWord
from partnercall.fewest import fewest_calls, fewest_same, loops, pure_loops, word_for, word_same
from support import (
    all_calls, all_joinings, check_answer, check_error, check_is_word, fixed_chance, lower_pairs_of, one_call,
    parts_of, result_reached, sheet_of_joins, sheet_of_strands, sheet_one_by_one, sheet_one_call, some_sheet,
    some_word, with_strands_in_order,
)

ONE = (1, 0, 6, 7, 5, 4, 2, 3)
MIXED = (1, 0, 7, 6, 5, 4, 3, 2)
SWAPPED = (5, 4, 6, 7, 1, 0, 2, 3)
CROSSED = (5, 4, 7, 6, 1, 0, 3, 2)
CROSSINGS = ([0, 1, 2, 3], [1, 0, 3, 2], [2, 3, 0, 1], [3, 2, 1, 0])


def loops_as_described(sheet):
    """The loops, as pairs (people, pure): all ends that are reached along joins and ties."""
    size = len(sheet) // 2
    found = set()
    for person in range(size):
        reached = [person]
        for end in reached:
            near = (sheet[end], end + size if end < size else end - size)
            reached.extend(other for other in near if other not in reached)
        people = tuple(sorted({end % size for end in reached}))
        crossing = all((end < size) != (sheet[end] < size) for end in reached)
        found.add((people, crossing and len(people) > 1))
    return sorted(found)


def fewest_by_search(size):
    """To each sheet of a word the fewest calls, by trying every call."""
    found = {sheet_one_by_one(size, []): 0}
    layer = list(found)
    steps = 0
    while layer:
        steps += 1
        following = {sheet_one_call(sheet, call) for sheet in layer for call in all_calls(size)} - set(found)
        found.update((sheet, steps) for sheet in following)
        layer = sorted(following)
    return found


def deeds_by_search(size):
    """To each list of results of all pairings the fewest calls that lead to them, by trying every call."""
    pairings = sorted(all_joinings(size))
    after = {(pairing, call): one_call(pairing, call) for pairing in pairings for call in all_calls(size)}
    found = {tuple(pairings): 0}
    layer = list(found)
    steps = 0
    while layer:
        steps += 1
        following = {tuple(after[pairing, call] for pairing in deed) for deed in layer for call in all_calls(size)}
        layer = sorted(following - set(found))
        found.update((deed, steps) for deed in layer)
    return found


def deed_of(sheet):
    """The results of all pairings."""
    return tuple(result_reached(sheet, pairing) for pairing in sorted(all_joinings(len(sheet) // 2)))


def sheets_of_many():
    """Sheets of up to 20 people with every number of strands."""
    chance = fixed_chance(12)
    found = []
    for size in (6, 8, 12, 20):
        for strands_many in range(0, size + 1, 2):
            found += [some_sheet(chance, size, strands_many) for step in range(6)]
    return found


def sheet_with_loops(size, sizes):
    """A sheet with one upper and one lower pair of the last two people, and pure loops of so many people each."""
    strands, first = [], 0
    for many in sizes:
        strands += [(first + at, first + (at + 1) % many) for at in range(many)]
        first += many
    strands += [(x, x) for x in range(first, size - 2)]
    return sheet_of_joins(size, [(size - 2, size - 1)], [(size - 2, size - 1)], strands)


class Words(unittest.TestCase):
    def check_word(self, sheet, fewest):
        self.assertEqual(fewest_calls(sheet), fewest)
        word = word_for(sheet)
        check_is_word(self, word, len(sheet) // 2)
        self.assertEqual(len(word), fewest)
        self.assertEqual(sheet_one_by_one(len(sheet) // 2, word), sheet)
        return word


class Loops(unittest.TestCase):
    def test_answers(self):
        check_answer(self, loops, [(0, 1), (2,), (3,)], sheet=ONE)
        check_answer(self, loops, [(0, 1), (2, 3)], sheet=MIXED)
        check_answer(self, pure_loops, [(2, 3)], sheet=MIXED)
        check_answer(self, pure_loops, [], sheet=ONE)
        check_answer(self, loops, [(0,), (1,)], sheet=(2, 3, 0, 1))
        check_answer(self, pure_loops, [], sheet=(2, 3, 0, 1))
        check_answer(self, loops, [(0, 1)], sheet=(3, 2, 1, 0))
        check_answer(self, pure_loops, [(0, 1)], sheet=(3, 2, 1, 0))
        check_answer(self, loops, [(0, 1)], sheet=(1, 0, 3, 2))
        check_answer(self, pure_loops, [], sheet=(1, 0, 3, 2))

    def test_all_sheets_of_few_people(self):
        for sheet in all_joinings(4) + all_joinings(8) + all_joinings(12)[::7]:
            expected = loops_as_described(sheet)
            self.assertEqual(loops(sheet), [people for people, pure in expected])
            self.assertEqual(pure_loops(sheet), [people for people, pure in expected if pure])

    def test_many_people(self):
        for sheet in sheets_of_many():
            expected = loops_as_described(sheet)
            check_answer(self, loops, [people for people, pure in expected], sheet=sheet)
            check_answer(self, pure_loops, [people for people, pure in expected if pure], sheet=sheet)


class FewPeople(Words):
    def test_all_sheets(self):
        for size, words_many in ((2, 2), (4, 82), (6, 9676)):
            found = fewest_by_search(size)
            self.assertEqual(len(found), words_many)
            for sheet in all_joinings(2 * size):
                if sheet in found:
                    self.check_word(sheet, found[sheet])
                else:
                    for function in (fewest_calls, word_for):
                        with self.assertRaises(NoWord):
                            function(sheet)

    def test_all_sheets_that_do_the_same(self):
        chance = fixed_chance(121)
        for size in (2, 4, 6):
            found = deeds_by_search(size)
            sheets = all_joinings(2 * size)
            if size == 6:
                sheets = chance.sample(sheets, 900) + [some_sheet(chance, 6, 4) for step in range(300)]
            for sheet in sheets:
                deed = deed_of(sheet)
                if deed in found:
                    self.assertEqual(fewest_same(sheet), found[deed])
                    word = word_same(sheet)
                    check_is_word(self, word, size)
                    self.assertEqual(len(word), found[deed])
                    self.assertEqual(deed_of(sheet_one_by_one(size, word)), deed)
                else:
                    for function in (fewest_same, word_same):
                        with self.assertRaises(NoWord):
                            function(sheet)


class ManyPeople(Words):
    def test_words_have_their_sheets(self):
        # Guarantee (f).
        for sheet in sheets_of_many():
            size = len(sheet) // 2
            if not lower_pairs_of(sheet):
                check_error(self, fewest_calls, NoWord, {}, sheet=sheet)
                check_error(self, word_for, NoWord, {}, sheet=sheet)
                continue
            closed = loops_as_described(sheet)
            fewest = size - len(closed) + 2 * len([people for people, pure in closed if pure])
            check_answer(self, fewest_calls, fewest, sheet=sheet)
            check_answer(self, word_for, self.check_word(sheet, fewest), sheet=sheet)

    def test_no_call_adds_more_than_one(self):
        # So fewer calls than fewest_calls tells cannot have the sheet.
        chance = fixed_chance(122)
        for size in (8, 12, 20):
            check_answer(self, fewest_calls, 0, sheet=sheet_one_by_one(size, []))
            for call in all_calls(size):
                check_answer(self, fewest_calls, 1, sheet=sheet_one_by_one(size, [call]))
            for step in range(20):
                sheet = some_sheet(chance, size, 2 * chance.randrange(size // 2))
                for call in chance.sample(all_calls(size), 28):
                    self.assertLessEqual(fewest_calls(sheet_one_call(sheet, call)), fewest_calls(sheet) + 1)

    def test_pure_loops(self):
        for size, sizes in ((8, [2, 2, 2]), (8, [6]), (8, [3, 3]), (20, [2] * 9), (20, [18]), (20, [9, 9]),
                            (20, [2, 3, 5, 7]), (20, [4]), (12, [10]), (12, [2, 5])):
            sheet = sheet_with_loops(size, sizes)
            word = self.check_word(sheet, 1 + sum(many + 1 for many in sizes))
            check_answer(self, word_for, word, sheet=sheet)

    def test_words_by_chance(self):
        chance = fixed_chance(123)
        for size in (2, 4, 6, 12, 20):
            for length in (0, 1, 2, 3, 5, 8, 20, 60):
                word = some_word(chance, size, length)
                sheet = sheet_one_by_one(size, word)
                fewest = fewest_calls(sheet)
                self.assertLessEqual(fewest, length)
                self.check_word(sheet, fewest)

    def test_empty_sheets(self):
        for size in (2, 4, 6, 20):
            sheet = sheet_one_by_one(size, [])
            for function, expected in ((fewest_calls, 0), (word_for, []), (fewest_same, 0), (word_same, [])):
                check_answer(self, function, expected, sheet=sheet)

    def test_more_people(self):
        # A returned sheet may be passed in again, whatever its size.
        sheet = some_sheet(fixed_chance(124), 80, 60)
        self.check_word(sheet, fewest_calls(sheet))

    def test_only_strands(self):
        chance = fixed_chance(125)
        for size in (6, 8, 20):
            for step in range(10):
                numbers = list(range(size))
                chance.shuffle(numbers)
                if numbers != sorted(numbers):
                    for function in (fewest_calls, word_for, fewest_same, word_same):
                        check_error(self, function, NoWord, {}, sheet=sheet_of_strands(numbers))

    def test_answers(self):
        check_answer(self, fewest_calls, 1, sheet=ONE)
        check_answer(self, word_for, [(0, 1)], sheet=ONE)
        check_answer(self, fewest_calls, 4, sheet=MIXED)
        check_answer(self, fewest_calls, 1, sheet=(1, 0, 3, 2))
        for sheet in (SWAPPED, CROSSED, (3, 2, 1, 0)):
            check_error(self, fewest_calls, NoWord, {}, sheet=sheet)
            check_error(self, word_for, NoWord, {}, sheet=sheet)


class Same(Words):
    def test_answers(self):
        check_answer(self, fewest_same, 1, sheet=MIXED)
        check_answer(self, fewest_same, 0, sheet=CROSSED)
        check_answer(self, word_same, [], sheet=CROSSED)
        check_error(self, fewest_same, NoWord, {}, sheet=SWAPPED)
        check_error(self, word_same, NoWord, {}, sheet=SWAPPED)
        # The two people of a single couple stay one, whatever the sheet.
        for sheet in all_joinings(4):
            check_answer(self, fewest_same, 0, sheet=sheet)
            check_answer(self, word_same, [], sheet=sheet)

    def test_settled(self):
        chance = fixed_chance(126)
        for size in (4, 6, 12, 20):
            for strands_many in (0, 2):
                for step in range(4):
                    sheet = some_sheet(chance, size, strands_many)
                    check_answer(self, fewest_same, size // 2 - 1, sheet=sheet)
                    word = word_same(sheet)
                    check_is_word(self, word, size)
                    check_answer(self, word_same, word, sheet=sheet)
                    self.assertEqual(len(word), size // 2 - 1)
                    only = {result_reached(each, pairing) for each in (sheet, sheet_one_by_one(size, word))
                            for pairing in (tuple(reversed(range(size))), tuple(x ^ 1 for x in range(size)))}
                    self.assertEqual(len(only), 1)

    def test_four_strands(self):
        chance = fixed_chance(127)
        gained = 0
        for size in (6, 8, 12, 20):
            for step in range(12):
                sheet = some_sheet(chance, size, 4)
                alike = [with_strands_in_order(sheet, order) for order in CROSSINGS]
                fewest = min(fewest_calls(each) for each in alike)
                gained += fewest < fewest_calls(sheet)
                check_answer(self, fewest_same, fewest, sheet=sheet)
                word = word_same(sheet)
                check_is_word(self, word, size)
                check_answer(self, word_same, word, sheet=sheet)
                self.assertEqual(len(word), fewest)
                self.assertIn(sheet_one_by_one(size, word), alike)
        self.assertGreater(gained, 0)

    def test_four_people_with_four_strands(self):
        for sheet in all_joinings(8):
            upper, lower, between = parts_of(sheet)
            if len(between) == 4:
                order = [y for x, y in between]
                if order in CROSSINGS:
                    check_answer(self, word_same, [], sheet=sheet)
                else:
                    check_error(self, word_same, NoWord, {}, sheet=sheet)

    def test_more_strands_only_by_the_sheet_itself(self):
        for sheet in sheets_of_many():
            if len(parts_of(sheet)[2]) >= 6 and lower_pairs_of(sheet):
                fewest = fewest_calls(sheet)
                check_answer(self, fewest_same, fewest, sheet=sheet)
                word = word_same(sheet)
                check_answer(self, word_same, word, sheet=sheet)
                self.assertEqual(len(word), fewest)
                self.assertEqual(sheet_one_by_one(len(sheet) // 2, word), sheet)


if __name__ == "__main__":
    unittest.main()
