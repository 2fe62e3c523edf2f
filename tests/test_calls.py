"""Point [5]: calls, compared with the description of a call in [1] and [5]."""

import unittest

from partnercall.calls import called, called_all, idle_calls, pairings_along
from partnercall.errors import NoPerson
from support import (
    all_joinings, along_one_by_one, check_answer, check_error, fixed_chance, one_call, some_joining, some_word,
)

P = (1, 0, 3, 2)
WORD_FUNCTIONS = (called_all, pairings_along, idle_calls)


def check_word_functions(test, pairing, word):
    along = along_one_by_one(pairing, word)
    idle = [at for at in range(len(word)) if pairing_has(along[at], word[at])]
    check_answer(test, called_all, along[-1], pairing=pairing, word=word)
    check_answer(test, pairings_along, along, pairing=pairing, word=word)
    check_answer(test, idle_calls, idle, pairing=pairing, word=word)


def pairing_has(pairing, call):
    return pairing[call[0]] == call[1]


class Called(unittest.TestCase):
    def test_every_call_of_every_small_pairing(self):
        for size in (2, 4, 6):
            for pairing in all_joinings(size):
                for b in range(size):
                    for a in range(b):
                        check_answer(self, called, one_call(pairing, (a, b)), pairing=pairing, call=(a, b))

    def test_answers(self):
        check_answer(self, called, (1, 0), pairing=(1, 0), call=(0, 1))
        check_answer(self, called, P, pairing=P, call=(2, 3))
        check_answer(self, called, (3, 2, 1, 0), pairing=P, call=(1, 2))
        check_answer(self, called, (2, 3, 0, 1), pairing=P, call=(1, 3))

    def test_20_people(self):
        chance = fixed_chance(5)
        for step in range(100):
            pairing = some_joining(chance, 20)
            call = tuple(sorted(chance.sample(range(20), 2)))
            check_answer(self, called, one_call(pairing, call), pairing=pairing, call=call)

    def test_no_person(self):
        for call, person in (((1, 4), 4), ((4, 5), 4), ((-1, 2), -1), ((-3, 9), -3), ((-2, -1), -2),
                             ((3, 10 ** 30), 10 ** 30), ((-10 ** 30, 0), -10 ** 30)):
            check_error(self, called, NoPerson, {"person": person}, pairing=P, call=call)
        check_error(self, called, NoPerson, {"person": 2}, pairing=(1, 0), call=(0, 2))
        check_error(self, called, NoPerson, {"person": 20}, pairing=tuple(reversed(range(20))), call=(19, 20))


class Words(unittest.TestCase):
    def test_empty_word(self):
        for pairing in ((1, 0), P, tuple(reversed(range(20)))):
            check_answer(self, called_all, pairing, pairing=pairing, word=[])
            check_answer(self, pairings_along, [pairing], pairing=pairing, word=[])
            check_answer(self, idle_calls, [], pairing=pairing, word=[])

    def test_answers(self):
        word = [(0, 1), (1, 2), (0, 3), (0, 1), (1, 3)]
        along = [P, P, (3, 2, 1, 0), (3, 2, 1, 0), P, (2, 3, 0, 1)]
        check_answer(self, called_all, (2, 3, 0, 1), pairing=P, word=word)
        check_answer(self, pairings_along, along, pairing=P, word=word)
        check_answer(self, idle_calls, [0, 2], pairing=P, word=word)

    def test_two_people(self):
        check_word_functions(self, (1, 0), [(0, 1)] * 3)
        check_answer(self, idle_calls, [0, 1, 2], pairing=(1, 0), word=[(0, 1)] * 3)

    def test_one_by_one(self):
        chance = fixed_chance(55)
        for size in (2, 4, 6, 8, 20):
            for length in (1, 2, 3, 7, 30):
                for step in range(5):
                    check_word_functions(self, some_joining(chance, size), some_word(chance, size, length))

    def test_1000_calls(self):
        chance = fixed_chance(1000)
        for size in (4, 20):
            check_word_functions(self, some_joining(chance, size), some_word(chance, size, 1000))

    def test_no_person(self):
        words = [
            ([(0, 4)], 4), ([(-1, 0)], -1), ([(0, 1), (2, 3), (3, 4)], 4), ([(0, 9), (-1, 2)], 9),
            ([(1, 2), (-5, 9), (8, 9)], -5), ([(0, 1)] * 999 + [(4, 5)], 4), ([(5, 6), (0, 4)], 5),
        ]
        for word, person in words:
            for function in WORD_FUNCTIONS:
                check_error(self, function, NoPerson, {"person": person}, pairing=P, word=word)

    def test_results_are_separate(self):
        along = pairings_along(P, [(1, 2)])
        again = pairings_along(P, [(1, 2)])
        along.clear()
        self.assertEqual(again, [P, (3, 2, 1, 0)])


if __name__ == "__main__":
    unittest.main()
