"""Point [4]: pairings."""

import unittest

from partnercall.errors import NoNumber
from partnercall.pairings import couples, is_pairing, pairing_at, pairing_number, pairing_of, pairings_many
from support import ODD_VALUES, all_joinings, as_lists, check_answer, check_error, fixed_chance, some_joining

MANY = {2: 1, 4: 3, 6: 15, 8: 105, 10: 945, 12: 10395, 20: 654729075}


def is_pairing_as_described(value):
    """The definition in [4], word by word."""
    if value.__class__ is not tuple or len(value) < 2 or len(value) % 2 == 1:
        return False
    for partner in value:
        if partner.__class__ is not int or partner not in range(len(value)):
            return False
    return all(value[x] != x and value[value[x]] == x for x in range(len(value)))


class IsPairing(unittest.TestCase):
    def test_all_small_ones(self):
        for size in (2, 4, 6, 8):
            for pairing in all_joinings(size):
                self.assertIs(is_pairing(pairing), True)
                self.assertIs(is_pairing(value=pairing), True)
                self.assertIs(is_pairing(list(pairing)), False)

    def test_odd_values(self):
        for value in ODD_VALUES:
            with self.subTest(value=value):
                before = repr(value)
                self.assertIs(is_pairing(value), is_pairing_as_described(value))
                self.assertIs(is_pairing(value=value), is_pairing_as_described(value))
                self.assertEqual(repr(value), before)

    def test_odd_values_that_are_none(self):
        for value in [(), None, True, "10", [1, 0], (True, False), (True, 0), (1, False), (0, 1), (0, 0),
                      (1, 2, 0), (-1, -2), (1, 0, -1, -2), (1, 2), (1, 0, 3, 3), (1, 2, 3, 0), ("1", "0")]:
            with self.subTest(value=value):
                self.assertIs(is_pairing(value), False)

    def test_all_tuples_of_small_numbers(self):
        for size in (1, 2, 3, 4):
            choices = [()]
            for step in range(size):
                choices = [(*row, x) for row in choices for x in (-1, 0, 1, 2, 3, 4, True, False, None)]
            for value in choices:
                self.assertIs(is_pairing(value), is_pairing_as_described(value))

    def test_any_size(self):
        large = tuple(x + 1 - 2 * (x % 2) for x in range(100000))
        self.assertIs(is_pairing(large), True)
        self.assertIs(is_pairing(large[:-1]), False)
        self.assertIs(is_pairing(large[:-1] + (True,)), False)
        self.assertIs(is_pairing(large[:-2] + (99998, 99999)), False)


class Couples(unittest.TestCase):
    def test_answers(self):
        check_answer(self, couples, [(0, 1)], pairing=(1, 0))
        check_answer(self, couples, [(0, 2), (1, 3)], pairing=(2, 3, 0, 1))
        check_answer(self, couples, [(0, 5), (1, 2), (3, 4)], pairing=(5, 2, 1, 4, 3, 0))

    def test_20_people(self):
        pairing = tuple(reversed(range(20)))
        check_answer(self, couples, [(x, 19 - x) for x in range(10)], pairing=pairing)

    def test_all_small_ones(self):
        for size in (2, 4, 6, 8):
            for pairing in all_joinings(size):
                found = couples(pairing)
                self.assertEqual(found, sorted({(min(x, pairing[x]), max(x, pairing[x])) for x in range(size)}))
                self.assertEqual(couples(list(pairing)), found)


class PairingOf(unittest.TestCase):
    def test_answers(self):
        check_answer(self, pairing_of, (1, 0), couples=[(0, 1)])
        check_answer(self, pairing_of, (1, 0), couples=[(1, 0)])
        check_answer(self, pairing_of, (2, 3, 0, 1), couples=[(3, 1), (0, 2)])
        check_answer(self, pairing_of, (5, 2, 1, 4, 3, 0), couples=[(4, 3), (5, 0), (1, 2)])

    def test_in_any_order(self):
        chance = fixed_chance(4)
        for size in (2, 4, 6, 8, 20):
            for step in range(20):
                pairing = some_joining(chance, size)
                pairs = [chance.choice([(x, y), (y, x)]) for x, y in enumerate(pairing) if x < y]
                chance.shuffle(pairs)
                check_answer(self, pairing_of, pairing, couples=pairs)

    def test_back_again(self):
        for pairing in all_joinings(8):
            self.assertEqual(pairing_of(couples(pairing)), pairing)


class Numbers(unittest.TestCase):
    def test_pairings_many(self):
        for size in MANY:
            check_answer(self, pairings_many, MANY[size], size=size)

    def test_in_ascending_order(self):
        for size in (2, 4, 6, 8):
            ascending = sorted(all_joinings(size))
            self.assertEqual(len(ascending), MANY[size])
            self.assertEqual([pairing_at(size, number) for number in range(MANY[size])], ascending)
            self.assertEqual([pairing_number(pairing) for pairing in ascending], list(range(MANY[size])))

    def test_answers(self):
        check_answer(self, pairing_at, (1, 0), size=2, number=0)
        check_answer(self, pairing_at, (3, 2, 1, 0), size=4, number=2)
        check_answer(self, pairing_at, (1, 0, 4, 5, 2, 3), size=6, number=1)
        check_answer(self, pairing_number, 0, pairing=(1, 0))
        check_answer(self, pairing_number, 2, pairing=(3, 2, 1, 0))
        check_answer(self, pairing_number, 1, pairing=(1, 0, 4, 5, 2, 3))

    def test_20_people(self):
        first = tuple(x + 1 - 2 * (x % 2) for x in range(20))
        last = tuple(reversed(range(20)))
        check_answer(self, pairing_at, first, size=20, number=0)
        check_answer(self, pairing_at, last, size=20, number=MANY[20] - 1)
        check_answer(self, pairing_number, 0, pairing=first)
        check_answer(self, pairing_number, MANY[20] - 1, pairing=last)

    def test_20_people_ascend(self):
        chance = fixed_chance(20)
        for step in range(50):
            number = chance.randrange(MANY[20] - 1)
            pairing = pairing_at(20, number)
            self.assertTrue(is_pairing(pairing))
            self.assertEqual(pairing_number(pairing), number)
            self.assertEqual(pairing_number(list(pairing)), number)
            self.assertLess(pairing, pairing_at(20, number + 1))

    def test_more_than_20_people(self):
        pairing = some_joining(fixed_chance(40), 40)
        self.assertEqual(pairing_at(40, pairing_number(pairing)), pairing)

    def test_no_number(self):
        for size in MANY:
            for number in (-1, -2, -MANY[size], MANY[size], MANY[size] + 1, 10 ** 40, -10 ** 40):
                check_error(self, pairing_at, NoNumber, {"number": number}, size=size, number=number)

    def test_arguments_stay_lists(self):
        pairing = as_lists((3, 2, 1, 0))
        pairing_number(pairing)
        couples(pairing)
        self.assertEqual(pairing, [3, 2, 1, 0])


if __name__ == "__main__":
    unittest.main()
