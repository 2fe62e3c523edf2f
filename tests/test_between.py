"""Point [11]: from one pairing to another, compared with searches call by call."""

import math
import unittest

from partnercall.between import cycles, distance, leads, word_at, word_number, words_many
from partnercall.errors import NoNumber, NoPerson, NotShortest, OtherSize
from support import (
    ODD_VALUES, all_calls, all_joinings, along_one_by_one, check_answer, check_error, check_great, check_is_word,
    fixed_chance, one_call, some_joining, some_word,
)

P = (1, 0, 3, 2)
Q = (2, 3, 0, 1)
SIX = (1, 0, 3, 2, 5, 4)
OTHER_SIX = (5, 2, 1, 4, 3, 0)
GREAT = 10 ** 5000


def words_by_search(one):
    """To each pairing the ascending list of all shortest words that lead there from one, by trying every call."""
    found = {one: [[]]}
    layer = {one: [[]]}
    while layer:
        following = {}
        for pairing, words in layer.items():
            for call in all_calls(len(one)):
                reached = one_call(pairing, call)
                if reached not in found:
                    following.setdefault(reached, []).extend(word + [call] for word in words)
        found.update(following)
        layer = following
    return {pairing: sorted(words) for pairing, words in found.items()}


def people_reached(one, other, person):
    """All people who are reached from one by going from partner to partner."""
    reached = [person]
    for x in reached:
        reached.extend(y for y in (one[x], other[x]) if y not in reached)
    return set(reached)


def cycles_as_described(one, other):
    """The cycles: as sets from the people reached, and each written by going in turn."""
    found = []
    for members in {frozenset(people_reached(one, other, x)) for x in range(len(one))}:
        written = [min(members)]
        while len(written) < len(members):
            written.append((one, other)[(len(written) + 1) % 2][written[-1]])
        assert set(written) == members
        found.append(tuple(written))
    return sorted(found)


def one_cycle_counted(couples, known={1: 1}):
    """The number of shortest words for one cycle, by adding over the first call: which parts does it leave?"""
    if couples not in known:
        known[couples] = couples * sum(
            math.comb(couples - 2, part - 1) * one_cycle_counted(part) * one_cycle_counted(couples - part)
            for part in range(1, couples))
    return known[couples]


def two_of(sizes):
    """Two pairings whose cycles have so many couples each."""
    one, other = [], []
    for couples in sizes:
        first, many = len(one), 2 * couples
        one.extend(first + (at ^ 1) for at in range(many))
        other.extend(first + (at + (1 if at % 2 else -1)) % many for at in range(many))
    return tuple(one), tuple(other)


class Cycles(unittest.TestCase):
    def test_answers(self):
        check_answer(self, cycles, [(0, 1, 3, 2)], one=P, other=Q)
        check_answer(self, cycles, [(0, 2, 3, 1)], one=Q, other=P)
        check_answer(self, cycles, [(0, 1), (2, 3)], one=P, other=P)
        check_answer(self, cycles, [(0, 1)], one=(1, 0), other=(1, 0))
        check_answer(self, cycles, [(0, 1, 2, 3, 4, 5)], one=SIX, other=OTHER_SIX)

    def test_all_pairs_of_few_people(self):
        for size in (2, 4, 6):
            for one in all_joinings(size):
                for other in all_joinings(size):
                    self.assertEqual(cycles(one, other), cycles_as_described(one, other))

    def test_many_people(self):
        chance = fixed_chance(11)
        for size in (8, 14, 20):
            for step in range(30):
                one, other = some_joining(chance, size), some_joining(chance, size)
                check_answer(self, cycles, cycles_as_described(one, other), one=one, other=other)


class FewPeople(unittest.TestCase):
    def check_pair(self, one, other, words):
        self.assertEqual(distance(one, other), len(words[0]))
        self.assertEqual(words_many(one, other), len(words))
        self.assertEqual([word_at(one, other, number) for number in range(len(words))], words)
        self.assertEqual([word_number(one, other, word) for word in words], list(range(len(words))))
        for number in (-1, len(words)):
            check_error(self, word_at, NoNumber, {"number": number}, one=one, other=other, number=number)

    def test_all_pairs_of_two_four_and_six(self):
        for size in (2, 4, 6):
            for one in all_joinings(size):
                for other, words in words_by_search(one).items():
                    self.check_pair(one, other, words)

    def test_some_pairs_of_eight(self):
        chance = fixed_chance(111)
        for one in (some_joining(chance, 8), some_joining(chance, 8)):
            found = words_by_search(one)
            self.assertEqual(len(found), 105)
            for other in chance.sample(sorted(found), 25):
                self.check_pair(one, other, found[other])

    def test_every_other_word_is_not_shortest(self):
        for size in (2, 4, 6):
            calls = all_calls(size)
            words = [[]] + [[call] for call in calls] + [[one, two] for one in calls for two in calls]
            one = all_joinings(size)[0]
            for other, shortest in words_by_search(one).items():
                for word in words:
                    if word not in shortest:
                        with self.assertRaises(NotShortest):
                            word_number(one, other, word)


class ManyPeople(unittest.TestCase):
    def test_distance_is_couples_without_cycles(self):
        # Guarantee (e).
        chance = fixed_chance(112)
        for size in (2, 4, 10, 20):
            for step in range(20):
                one, other = some_joining(chance, size), some_joining(chance, size)
                expected = size // 2 - len(cycles_as_described(one, other))
                check_answer(self, distance, expected, one=one, other=other)
                check_answer(self, distance, expected, one=other, other=one)
                many = words_many(one, other)
                check_answer(self, words_many, many, one=one, other=other)
                self.assertEqual(words_many(other, one), many)

    def test_one_cycle(self):
        for couples in range(1, 11):
            one, other = two_of([couples])
            check_answer(self, distance, couples - 1, one=one, other=other)
            check_answer(self, words_many, one_cycle_counted(couples), one=one, other=other)

    def test_several_cycles(self):
        for sizes in ([1, 1], [2, 2], [2, 1, 2], [3, 2], [4, 3, 3], [5, 5], [2, 2, 2, 2, 2], [1, 8, 1], [3, 7], [6, 1, 3]):
            one, other = two_of(sizes)
            calls = sum(couples - 1 for couples in sizes)
            expected = math.factorial(calls)
            for couples in sizes:
                expected = expected * one_cycle_counted(couples) // math.factorial(couples - 1)
            check_answer(self, distance, calls, one=one, other=other)
            check_answer(self, words_many, expected, one=one, other=other)

    def test_numbers_and_words(self):
        chance = fixed_chance(113)
        for size in (8, 12, 20):
            for step in range(6):
                one, other = some_joining(chance, size), some_joining(chance, size)
                many = words_many(one, other)
                for number in sorted({0, 1 % many, many // 2, many - 1, chance.randrange(many)}):
                    word = word_at(one, other, number)
                    check_is_word(self, word, size)
                    self.assertEqual(len(word), distance(one, other))
                    self.assertEqual(along_one_by_one(one, word)[-1], other)
                    check_answer(self, word_at, word, one=one, other=other, number=number)
                    check_answer(self, word_number, number, one=one, other=other, word=word)
                    if number + 1 < many:
                        self.assertLess(word, word_at(one, other, number + 1))
                for number in (-1, many):
                    check_error(self, word_at, NoNumber, {"number": number}, one=one, other=other, number=number)

    def test_longest_way(self):
        one, other = two_of([10])
        many = words_many(one, other)
        self.assertEqual(many, 2 ** 9 * 10 ** 8)
        for number in (0, 1, 123456789, many - 1):
            word = word_at(one, other, number)
            self.assertEqual(along_one_by_one(one, word)[-1], other)
            self.assertEqual(word_number(one, other, word), number)
        self.assertEqual(word_at(one, other, 0), sorted(word_at(one, other, number) for number in range(40))[0])

    def test_found_words_have_numbers(self):
        # Shortest words found by chance, each call one that brings both pairings nearer.
        chance = fixed_chance(114)
        for step in range(10):
            one, other = some_joining(chance, 20), some_joining(chance, 20)
            present, word = one, []
            while present != other:
                nearer = [call for call in all_calls(20)
                          if len(cycles_as_described(one_call(present, call), other))
                          > len(cycles_as_described(present, other))]
                word.append(chance.choice(nearer))
                present = one_call(present, word[-1])
            number = word_number(one, other, word)
            self.assertEqual(word_at(one, other, number), word)

    def test_more_people(self):
        # A returned pairing may be passed in again, whatever its size.
        one, other = two_of([15, 5, 20])
        word = word_at(one, other, words_many(one, other) - 1)
        self.assertEqual(len(word), 37)
        self.assertEqual(along_one_by_one(one, word)[-1], other)
        self.assertEqual(word_number(one, other, word), words_many(one, other) - 1)

    def test_equal_pairings(self):
        for size in (2, 4, 20):
            pairing = some_joining(fixed_chance(115), size)
            check_answer(self, distance, 0, one=pairing, other=pairing)
            check_answer(self, words_many, 1, one=pairing, other=pairing)
            check_answer(self, word_at, [], one=pairing, other=pairing, number=0)
            check_answer(self, word_number, 0, one=pairing, other=pairing, word=[])
            check_error(self, word_number, NotShortest, {}, one=pairing, other=pairing, word=[(0, 1)])


class Leads(unittest.TestCase):
    def test_answers(self):
        check_answer(self, leads, True, one=P, other=Q, value=[(0, 3), (0, 2)])
        check_answer(self, leads, False, one=P, other=Q, value=[(0, 3)])
        check_answer(self, leads, True, one=P, other=Q, value=[(0, 2)])
        check_answer(self, leads, True, one=P, other=Q, value=[(1, 3)])
        check_answer(self, leads, True, one=P, other=Q, value=[(0, 2), (0, 2), (1, 3)])
        check_answer(self, leads, False, one=P, other=Q, value=[])
        check_answer(self, leads, True, one=P, other=P, value=[])
        check_answer(self, leads, True, one=P, other=P, value=[(0, 1)])

    def test_any_words(self):
        chance = fixed_chance(116)
        for size in (2, 4, 6, 20):
            for step in range(20):
                one = some_joining(chance, size)
                word = some_word(chance, size, chance.randrange(12))
                reached = along_one_by_one(one, word)[-1]
                check_answer(self, leads, True, one=one, other=reached, value=word)
                other = some_joining(chance, size)
                check_answer(self, leads, reached == other, one=one, other=other, value=word)

    def test_wrong_forms(self):
        wrong = [
            ((0, 2),), [[0, 2]], [(2, 0)], [(0, 2), (2, 2)], [(0, 2), (0, 4)], [(0, 2), (-1, 0)], [(0, 2), ()],
            [(0, 2), (0,)], [(0, 2), (0, 2, 3)], [(0, 2), None], [(0, 2), "02"], [(0, 2), 0], (0, 2), [0, 2],
            [(0, 2), (False, 2)], [(False, 2)], [(0, 2), (0, "2")], [(0, 2), (0, None)], [(0, 2), ((0,), (2,))],
            [(0, 2), [0, 2]], [[(0, 2)]], [((0, 2),)], "0-2", "", None, True, 0, [(0, 2), (0, GREAT)],
            [(0, 2), (-GREAT, 2)], [(0, 2), (GREAT, GREAT + 1)], [(0, 2), True], [(0, 2), (0, [2])], [(0, 2), []],
        ]
        for value in wrong:
            self.assertIs(leads(P, Q, value), False)
            self.assertIs(leads(one=P, other=Q, value=value), False)
        # True is no person, although it equals 1.
        self.assertIs(leads(P, Q, [(1, 3)]), True)
        self.assertIs(leads(P, Q, [(True, 3)]), False)
        self.assertIs(leads((1, 0), (1, 0), [(0, True)]), False)

    def test_odd_values(self):
        for value in ODD_VALUES:
            # Of these only the empty list, and a list of two couples, are lists of calls.
            self.assertIs(leads(Q, P, value), repr(value) == "[(0, 1), (2, 3)]", value)
            self.assertIs(leads(P, P, value), repr(value) in ("[(0, 1), (2, 3)]", "[]"), value)
        for value in (GREAT, -GREAT, [GREAT], [(GREAT, 1)], [(1, GREAT)], (GREAT, -GREAT)):
            self.assertIs(leads(Q, P, value), False)

    def test_large_values(self):
        self.assertIs(leads(P, Q, [(0, 1)] * 100000 + [(0, 2)]), True)
        self.assertIs(leads(P, Q, [(0, 1)] * 100000 + [(0, 2), (0, 4)]), False)

    def test_value_is_not_modified(self):
        value = [(0, 3), [0, 2]]
        self.assertIs(leads(P, Q, value), False)
        self.assertEqual(value, [(0, 3), [0, 2]])


class Errors(unittest.TestCase):
    def test_no_number(self):
        for number in (2, 3, -1, -2, 10 ** 30, -10 ** 30):
            check_error(self, word_at, NoNumber, {"number": number}, one=P, other=Q, number=number)
        for great in (GREAT, -GREAT):
            check_great(self, word_at, NoNumber, "number", great, one=P, other=Q, number=great)

    def test_no_person_before_not_shortest(self):
        for word, person in (
                ([(0, 4)], 4), ([(-1, 2)], -1), ([(4, 5)], 4), ([(0, 2), (1, 9)], 9), ([(0, 1), (0, 1), (-3, 7)], -3),
                ([(0, 2), (3, 4), (-1, 0)], 4)):
            check_error(self, word_number, NoPerson, {"person": person}, one=P, other=Q, word=word)
        for great in (GREAT, -GREAT):
            word = [(0, 1), (min(1, great), max(1, great))]
            check_great(self, word_number, NoPerson, "person", great, one=P, other=Q, word=word)

    def test_not_shortest(self):
        for word in ([], [(0, 1)], [(2, 3)], [(0, 3)], [(1, 2)], [(0, 2), (0, 2)], [(0, 3), (0, 2)], [(0, 1), (0, 2)]):
            check_error(self, word_number, NotShortest, {}, one=P, other=Q, word=word)
        # As many calls as needed, but one of them is idle, or joins two cycles, or leaves a cycle whole.
        for word in ([(0, 1), (0, 5)], [(0, 5), (0, 5)], [(0, 2), (0, 5)], [(0, 5), (0, 1)], [(0, 5), (1, 3)]):
            check_error(self, word_number, NotShortest, {}, one=SIX, other=OTHER_SIX, word=word)
        check_error(self, word_number, NotShortest, {}, one=SIX, other=OTHER_SIX, word=[(0, 5), (1, 2)] * 500)

    def test_other_size_before_any_other(self):
        for one, other in ((P, SIX), (SIX, P), ((1, 0), P), (P, tuple(reversed(range(20))))):
            size = {"size": len(other)}
            for function in (cycles, distance, words_many):
                check_error(self, function, OtherSize, size, one=one, other=other)
            for number in (0, -1, 10 ** 30):
                check_error(self, word_at, OtherSize, size, one=one, other=other, number=number)
            for word in ([], [(0, 1)], [(0, 99)], [(-5, 99)]):
                check_error(self, word_number, OtherSize, size, one=one, other=other, word=word)
            for value in ([], [(0, 1)], [(0, 99)], None, "", 0, True, [[[[[[[[1]]]]]]]], (1, 0)):
                check_error(self, leads, OtherSize, size, one=one, other=other, value=value)
        check_great(self, word_at, OtherSize, "size", 6, one=P, other=SIX, number=GREAT)


if __name__ == "__main__":
    unittest.main()
