"""Point [13]: words that are repeated, compared with calls done one by one."""

import math
import unittest

from partnercall.errors import NoPerson
from partnercall.fewest import word_for
from partnercall.repeats import first_time, repeated, settles, sheet_settles
from support import (
    all_calls, all_joinings, along_one_by_one, check_answer, check_error, check_great, fixed_chance, result_reached,
    sheet_of_joins, sheet_one_by_one, sheet_one_call, some_joining, some_word,
)

P = (1, 0, 3, 2)
Q = (2, 3, 0, 1)
SIX = (1, 0, 3, 2, 5, 4)
MOST = 10 ** 12
GREAT = 10 ** 5000


def until_again(start, step):
    """What comes from start step by step, each once, and the index of the one that comes again."""
    found = [start]
    index = {start: 0}
    while True:
        following = step(found[-1])
        if following in index:
            return found, index[following]
        index[following] = len(found)
        found.append(following)


def pairings_in_turn(pairing, word):
    return until_again(pairing, lambda present: along_one_by_one(present, word)[-1])


def sheets_in_turn(size, word):
    def one_more(sheet):
        for call in word:
            sheet = sheet_one_call(sheet, call)
        return sheet

    return until_again(sheet_one_by_one(size, []), one_more)


def at_time(found, begin, many):
    """What there is after many steps."""
    if many < len(found):
        return found[many]
    return found[begin + (many - begin) % (len(found) - begin)]


def turning_sheet(size, sizes):
    """A sheet that turns groups of so many people, and joins the last two."""
    strands, first = [], 0
    for many in sizes:
        strands += [(first + at, first + (at + 1) % many) for at in range(many)]
        first += many
    strands += [(x, x) for x in range(first, size - 2)]
    return sheet_of_joins(size, [(size - 2, size - 1)], [(size - 2, size - 1)], strands)


def turning_word(size, sizes):
    """A word that turns groups of so many people."""
    return word_for(turning_sheet(size, sizes))


def some_repeats():
    """Pairings and words of up to 20 people."""
    chance = fixed_chance(13)
    found = []
    for size in (2, 4, 6, 8, 12, 20):
        for length in (0, 1, 2, 3, 4, 6, 9, 14, 30, 60):
            found.append((some_joining(chance, size), some_word(chance, size, length)))
    # Words with few different people leave the others apart, so that much is moved and little is settled.
    for size in (6, 10, 20):
        for step in range(6):
            calls = some_word(chance, size, 3)
            found.append((some_joining(chance, size), [chance.choice(calls) for at in range(8)]))
    for sizes in ([3], [4, 2], [2, 3, 5, 7], [18], [5, 5, 8], [11, 7], [9, 8], [2] * 9, [6, 10], [12, 4]):
        found.append((some_joining(chance, 20), turning_word(20, sizes)))
    return found


class AgainstOneByOne(unittest.TestCase):
    def test_all_short_words_of_four_people(self):
        calls = all_calls(4)
        words = [[]] + [[a] for a in calls] + [[a, b] for a in calls for b in calls]
        words += [[a, b, c] for a in calls for b in calls[::2] for c in calls]
        for word in words:
            sheets, begin = sheets_in_turn(4, word)
            self.assertEqual(sheet_settles(4, word), (begin, len(sheets) - begin))
            for pairing in all_joinings(4):
                found, begin = pairings_in_turn(pairing, word)
                self.assertEqual(settles(pairing, word), (begin, len(found) - begin))
                for many in range(6):
                    self.assertEqual(repeated(pairing, word, many), at_time(found, begin, many))
                for person, partner in calls:
                    times = [at for at, present in enumerate(found) if present[person] == partner]
                    expected = times[0] if times else None
                    self.assertEqual(first_time(pairing, word, person, partner), expected)
                    self.assertEqual(first_time(pairing, word, partner, person), expected)

    def test_repeated(self):
        for pairing, word in some_repeats():
            found, begin = pairings_in_turn(pairing, word)
            for many in (0, 1, 2, 3, 7, 10, 211, MOST - 1, MOST):
                check_answer(self, repeated, at_time(found, begin, many), pairing=pairing, word=word, many=many)

    def test_settles(self):
        for pairing, word in some_repeats():
            found, begin = pairings_in_turn(pairing, word)
            check_answer(self, settles, (begin, len(found) - begin), pairing=pairing, word=word)

    def test_sheet_settles(self):
        for pairing, word in some_repeats():
            found, begin = sheets_in_turn(len(pairing), word)
            check_answer(self, sheet_settles, (begin, len(found) - begin), size=len(pairing), word=word)

    def test_first_time(self):
        chance = fixed_chance(131)
        late = 0
        for pairing, word in some_repeats():
            found, begin = pairings_in_turn(pairing, word)
            size = len(pairing)
            for step in range(8):
                person, partner = chance.sample(range(size), 2)
                times = [at for at, present in enumerate(found) if present[person] == partner]
                expected = times[0] if times else None
                late = max(late, expected or 0)
                check_answer(self, first_time, expected, pairing=pairing, word=word, person=person, partner=partner)
        self.assertGreater(late, 10)


class GreatNumbers(unittest.TestCase):
    def test_long_periods(self):
        for size, sizes in ((20, [2, 3, 5, 7]), (20, [3, 4, 5, 1]), (20, [7, 11]), (20, [17]), (12, [2, 3, 5])):
            word = turning_word(size, sizes)
            self.assertLessEqual(len(word), 60)
            check_answer(self, sheet_settles, (1, math.lcm(*sizes)), size=size, word=word)

    def test_results_of_great_numbers(self):
        # Guarantee (g): what has been turned so often is where the rests of the number tell.
        sizes = [7, 11]
        word = turning_word(20, sizes)
        pairing = tuple([x + 9 for x in range(9)] + [x - 9 for x in range(9, 18)] + [19, 18])
        for many in (MOST, MOST - 1, 10 ** 11 + 7, 999999999989):
            place = [(x + many) % 7 for x in range(7)] + [7 + (x + many) % 11 for x in range(11)] + [18, 19]
            expected = [0] * 20
            for x, y in enumerate(pairing):
                expected[place[x]] = place[y]
            check_answer(self, repeated, tuple(expected), pairing=pairing, word=word, many=many)

    def test_period_of_a_pairing_divides_that_of_the_sheet(self):
        # The pairing may come again sooner than the sheet.
        word = turning_word(20, [4, 4, 4, 6])
        pairing = tuple((x + 4) % 8 for x in range(8)) + (10, 11, 8, 9, 15, 16, 17, 12, 13, 14, 19, 18)
        check_answer(self, sheet_settles, (1, 12), size=20, word=word)
        check_answer(self, settles, (0, 1), pairing=pairing, word=word)
        pairing = tuple((x + 4) % 8 for x in range(8)) + (9, 8, 11, 10, 15, 16, 17, 12, 13, 14, 19, 18)
        check_answer(self, settles, (0, 2), pairing=pairing, word=word)
        pairing = tuple((x + 4) % 8 for x in range(8)) + (9, 8, 11, 10, 13, 12, 15, 14, 17, 16, 19, 18)
        check_answer(self, settles, (0, 2), pairing=pairing, word=word)
        pairing = tuple((x + 4) % 8 for x in range(8)) + (9, 8, 11, 10, 13, 12, 17, 16, 15, 14, 19, 18)
        check_answer(self, settles, (0, 6), pairing=pairing, word=word)

    def test_late_couples(self):
        # Two people from two groups: the couple comes when both rests fit.
        for sizes, time in (([7, 11], 76), ([9, 8], 71), ([2, 3, 5, 7], 29)):
            word = turning_word(20, sizes)
            a, b = sizes[-2:]
            first = sum(sizes[:-2])
            # Behind time repetitions, those who stand here now are the first of both groups.
            here = [first + (-time) % a, first + a + (-time) % b]
            rest = [x for x in range(18) if x not in here]
            couples = [here] + [rest[at:at + 2] for at in range(0, 16, 2)] + [[18, 19]]
            pairing = [0] * 20
            for x, y in couples:
                pairing[x], pairing[y] = y, x
            found = pairings_in_turn(tuple(pairing), word)[0]
            expected = [at for at, present in enumerate(found) if present[first] == first + a][0]
            self.assertLessEqual(expected, time)
            check_answer(self, first_time, expected,
                         pairing=tuple(pairing), word=word, person=first, partner=first + a)

    def test_latest_couple(self):
        # Only one couple goes between both groups, so that it cannot come sooner.
        word = turning_word(20, [9, 9])
        self.assertEqual(sheet_settles(20, word), (1, 9))
        word = turning_word(20, [7, 11])
        here, there = (-76) % 7, 7 + (-76) % 11
        pairing = [0] * 20
        inside = [x for x in range(7) if x != here], [x for x in range(7, 18) if x != there], [18, 19], [here, there]
        for group in inside:
            for at in range(0, len(group), 2):
                pairing[group[at]], pairing[group[at + 1]] = group[at + 1], group[at]
        check_answer(self, first_time, 76, pairing=tuple(pairing), word=word, person=0, partner=7)
        check_answer(self, first_time, 76, pairing=tuple(pairing), word=word, person=7, partner=0)
        check_answer(self, first_time, None, pairing=tuple(pairing), word=word, person=0, partner=18)
        check_answer(self, first_time, 0, pairing=tuple(pairing), word=word, person=19, partner=18)

    def test_more_people(self):
        # A returned pairing may be passed in again, whatever its size; nothing goes through all repetitions.
        sizes = [3, 4, 5, 7, 11, 13, 17]
        word = turning_word(62, sizes)
        check_answer(self, sheet_settles, (1, math.prod(sizes)), size=62, word=word)
        pairing = tuple(reversed(range(60))) + (61, 60)
        begin, period = settles(pairing, word)
        self.assertEqual(begin, 0)
        self.assertEqual(math.prod(sizes) % period, 0)
        self.assertEqual(repeated(pairing, word, period), pairing)
        self.assertEqual(repeated(pairing, word, 0), pairing)
        sheet = turning_sheet(62, sizes)
        self.assertEqual(repeated(pairing, word, 10 * period + 1), result_reached(sheet, pairing))


class Answers(unittest.TestCase):
    def test_answers(self):
        check_answer(self, repeated, P, pairing=Q, word=[(0, 1)], many=MOST)
        check_answer(self, repeated, SIX, pairing=SIX, word=[(1, 2), (3, 4), (0, 1), (2, 3)], many=0)
        check_answer(self, settles, (1, 1), pairing=Q, word=[(0, 1)])
        check_answer(self, settles, (0, 1), pairing=P, word=[(0, 1)])
        check_answer(self, settles, (0, 1), pairing=P, word=[])
        check_answer(self, settles, (0, 1), pairing=(1, 0), word=[(0, 1)])
        check_answer(self, sheet_settles, (1, 1), size=4, word=[(0, 1)])
        check_answer(self, sheet_settles, (0, 1), size=4, word=[])
        check_answer(self, sheet_settles, (1, 1), size=2, word=[(0, 1)])
        check_answer(self, sheet_settles, (0, 1), size=20, word=[])
        check_answer(self, first_time, 1, pairing=Q, word=[(0, 1)], person=0, partner=1)
        check_answer(self, first_time, None, pairing=Q, word=[(0, 1)], person=0, partner=3)
        check_answer(self, first_time, 0, pairing=Q, word=[(0, 1)], person=2, partner=0)
        check_answer(self, first_time, 0, pairing=(1, 0), word=[], person=1, partner=0)

    def test_no_repetition_checks_the_word(self):
        check_error(self, repeated, NoPerson, {"person": 4}, pairing=P, word=[(0, 4)], many=0)


class Errors(unittest.TestCase):
    def test_no_person_in_the_word(self):
        for word, person in (([(0, 4)], 4), ([(-1, 4)], -1), ([(0, 1), (2, 7), (-1, 0)], 7), ([(0, 1), (-9, 9)], -9)):
            attributes = {"person": person}
            for many in (0, 1, MOST):
                check_error(self, repeated, NoPerson, attributes, pairing=P, word=word, many=many)
            check_error(self, settles, NoPerson, attributes, pairing=P, word=word)
            check_error(self, sheet_settles, NoPerson, attributes, size=4, word=word)
            # The word comes before the two people.
            for first, second in ((0, 1), (5, 6), (-1, 10 ** 30)):
                check_error(self, first_time, NoPerson, attributes, pairing=P, word=word, person=first, partner=second)

    def test_no_person(self):
        for person, partner, wrong in ((4, 0, 4), (0, 4, 4), (-1, 0, -1), (0, -1, -1), (5, 4, 5), (-1, 9, -1),
                                       (3, 10 ** 30, 10 ** 30), (-4, 1, -4), (0, -4, -4)):
            for pairing in (P, Q):
                check_error(self, first_time, NoPerson, {"person": wrong},
                            pairing=pairing, word=[(0, 1)], person=person, partner=partner)

    def test_great_integers(self):
        for great in (GREAT, -GREAT):
            word = [(0, 1), (min(2, great), max(2, great))]
            check_great(self, repeated, NoPerson, "person", great, pairing=P, word=word, many=3)
            check_great(self, settles, NoPerson, "person", great, pairing=P, word=word)
            check_great(self, sheet_settles, NoPerson, "person", great, size=4, word=word)
            check_great(self, first_time, NoPerson, "person", great, pairing=P, word=word, person=9, partner=8)
            check_great(self, first_time, NoPerson, "person", great, pairing=P, word=[], person=great, partner=8)
            check_great(self, first_time, NoPerson, "person", great, pairing=P, word=[], person=0, partner=great)


if __name__ == "__main__":
    unittest.main()
