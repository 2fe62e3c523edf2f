"""Point [10]: settling, compared with all results and all words of few people."""

import unittest

from partnercall.errors import NoPerson, NotSettled
from partnercall.settling import (
    fewest_to_settle, is_settled, partners_of, settle_word, settled_pairing, sure_couples, word_to_settle,
)
from partnercall.sheets import empty_sheet, sheet_of, with_call
from support import (
    all_calls, all_joinings, along_one_by_one, check_answer, check_error, check_great, fixed_chance, lower_pairs_of,
    result_reached, some_joining, some_sheet,
)

ONE = (1, 0, 6, 7, 5, 4, 2, 3)
WIDE = (1, 0, 8, 9, 10, 11, 7, 6, 2, 3, 4, 5)
MANY = {0: 1, 2: 1, 4: 3, 6: 15, 8: 105, 10: 945, 12: 10395, 14: 135135, 16: 2027025, 18: 34459425, 20: 654729075}


def all_results(sheet):
    return sorted({result_reached(sheet, pairing) for pairing in all_joinings(len(sheet) // 2)})


def small_sheets():
    chance = fixed_chance(10)
    found = all_joinings(4) + all_joinings(8)
    for size in (6, 8):
        for strands_many in range(0, size + 1, 2):
            found += [some_sheet(chance, size, strands_many) for step in range(4)]
    return found


def fewest_by_trying(sheet):
    """The fewest calls after which there is only one result, by trying all of them."""
    steps = 0
    reached = {sheet}
    while all(len(all_results(one)) > 1 for one in reached):
        reached = {with_call(one, call) for one in reached for call in all_calls(len(sheet) // 2)}
        steps += 1
    return steps


class Settled(unittest.TestCase):
    def test_few_people(self):
        for sheet in small_sheets():
            results = all_results(sheet)
            check_answer(self, is_settled, len(results) == 1, sheet=sheet)
            if len(results) == 1:
                check_answer(self, settled_pairing, results[0], sheet=sheet)
            else:
                check_error(self, settled_pairing, NotSettled, {"many": len(results)}, sheet=sheet)

    def test_20_people(self):
        chance = fixed_chance(101)
        for strands_many in range(0, 21, 2):
            sheet = some_sheet(chance, 20, strands_many)
            check_answer(self, is_settled, strands_many <= 2, sheet=sheet)
            if strands_many <= 2:
                only = result_reached(sheet, some_joining(chance, 20))
                check_answer(self, settled_pairing, only, sheet=sheet)
                check_answer(self, sure_couples, [(x, y) for x, y in enumerate(only) if x < y], sheet=sheet)
            else:
                check_error(self, settled_pairing, NotSettled, {"many": MANY[strands_many]}, sheet=sheet)
                check_answer(self, sure_couples, lower_pairs_of(sheet), sheet=sheet)

    def test_answers(self):
        check_answer(self, is_settled, True, sheet=ONE)
        check_answer(self, is_settled, False, sheet=WIDE)
        check_answer(self, is_settled, True, sheet=empty_sheet(2))
        check_answer(self, is_settled, True, sheet=(1, 0, 3, 2))
        check_answer(self, is_settled, False, sheet=empty_sheet(4))
        check_answer(self, settled_pairing, (1, 0, 3, 2), sheet=ONE)
        check_answer(self, settled_pairing, (1, 0), sheet=empty_sheet(2))
        check_error(self, settled_pairing, NotSettled, {"many": 3}, sheet=WIDE)


class Sure(unittest.TestCase):
    def test_sure_couples(self):
        for sheet in small_sheets():
            size = len(sheet) // 2
            results = all_results(sheet)
            expected = [(x, y) for x, y in all_calls(size) if all(pairing[x] == y for pairing in results)]
            check_answer(self, sure_couples, expected, sheet=sheet)

    def test_partners_of(self):
        for sheet in small_sheets():
            results = all_results(sheet)
            for person in range(len(sheet) // 2):
                expected = sorted({pairing[person] for pairing in results})
                check_answer(self, partners_of, expected, sheet=sheet, person=person)

    def test_20_people(self):
        chance = fixed_chance(102)
        for strands_many in range(0, 21, 2):
            sheet = some_sheet(chance, 20, strands_many)
            bound = {}
            for x, y in lower_pairs_of(sheet):
                bound[x], bound[y] = y, x
            for person in range(20):
                others = [x for x in range(20) if x not in bound and x != person]
                expected = [bound[person]] if person in bound else others
                check_answer(self, partners_of, expected, sheet=sheet, person=person)

    def test_answers(self):
        check_answer(self, sure_couples, [(0, 1)], sheet=WIDE)
        check_answer(self, sure_couples, [(0, 1), (2, 3)], sheet=ONE)
        check_answer(self, sure_couples, [], sheet=empty_sheet(4))
        check_answer(self, sure_couples, [(0, 1)], sheet=empty_sheet(2))
        check_answer(self, partners_of, [3, 4, 5], sheet=WIDE, person=2)
        check_answer(self, partners_of, [1], sheet=WIDE, person=0)
        check_answer(self, partners_of, [0], sheet=WIDE, person=1)

    def test_no_person(self):
        for person in (-1, -6, 6, 7, 12, 10 ** 30, -10 ** 30):
            check_error(self, partners_of, NoPerson, {"person": person}, sheet=WIDE, person=person)
        for great in (10 ** 5000, -10 ** 5000):
            check_great(self, partners_of, NoPerson, "person", great, sheet=WIDE, person=great)


class ToSettle(unittest.TestCase):
    def check_word(self, sheet, fewest):
        check_answer(self, fewest_to_settle, fewest, sheet=sheet)
        word = word_to_settle(sheet)
        check_answer(self, word_to_settle, word, sheet=sheet)
        self.assertIs(word.__class__, list)
        self.assertEqual(len(word), fewest)
        settled = sheet
        for call in word:
            self.assertIs(call.__class__, tuple)
            self.assertIn(call, all_calls(len(sheet) // 2))
            settled = with_call(settled, call)
        return settled

    def test_few_people(self):
        sheets = all_joinings(4) + all_joinings(8)
        chance = fixed_chance(103)
        sheets += [some_sheet(chance, 6, strands_many) for strands_many in (0, 2, 4, 6)]
        for sheet in sheets:
            settled = self.check_word(sheet, fewest_by_trying(sheet))
            self.assertEqual(len(all_results(settled)), 1)

    def test_20_people(self):
        chance = fixed_chance(104)
        for size in (8, 20):
            for strands_many in range(0, size + 1, 2):
                settled = self.check_word(some_sheet(chance, size, strands_many), max(0, strands_many // 2 - 1))
                self.assertLessEqual(len([end for end in settled[:size] if end >= size]), 2)

    def test_answers(self):
        check_answer(self, fewest_to_settle, 2, sheet=empty_sheet(6))
        check_answer(self, fewest_to_settle, 0, sheet=empty_sheet(2))
        check_answer(self, fewest_to_settle, 0, sheet=(1, 0, 3, 2))
        check_answer(self, word_to_settle, [], sheet=empty_sheet(2))
        check_answer(self, word_to_settle, [], sheet=(1, 0, 3, 2))


class SettleWord(unittest.TestCase):
    def test_leads_every_pairing_there(self):
        # Guarantee (d).
        for size in (2, 4, 6, 8):
            pairings = all_joinings(size)
            for goal in pairings[::4]:
                word = settle_word(goal)
                self.assertEqual(len(word), size // 2 - 1)
                for pairing in pairings[::3]:
                    self.assertEqual(along_one_by_one(pairing, word)[-1], goal)

    def test_fewer_calls_do_not(self):
        for size in (4, 6):
            words = [[]] + [[call] for call in all_calls(size)]
            for word in words:
                if len(word) < size // 2 - 1:
                    ends = {along_one_by_one(pairing, word)[-1] for pairing in all_joinings(size)}
                    self.assertGreater(len(ends), 1)

    def test_couples_without_the_last(self):
        check_answer(self, settle_word, [], pairing=(1, 0))
        check_answer(self, settle_word, [(0, 2)], pairing=(2, 3, 0, 1))
        check_answer(self, settle_word, [(0, 1), (2, 3)], pairing=(1, 0, 3, 2, 5, 4))
        check_answer(self, settle_word, [(0, 5), (1, 2)], pairing=(5, 2, 1, 4, 3, 0))
        check_answer(self, settle_word, [(x, 19 - x) for x in range(9)], pairing=tuple(reversed(range(20))))

    def test_20_people(self):
        chance = fixed_chance(105)
        for step in range(20):
            goal = some_joining(chance, 20)
            settled = sheet_of(20, settle_word(goal))
            check_answer(self, settled_pairing, goal, sheet=settled)


if __name__ == "__main__":
    unittest.main()
