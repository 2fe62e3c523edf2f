"""Point [18]: texts of pairings and words, there and back, and texts that are not valid."""

import unittest

from partnercall.errors import BadText, NoPerson
from partnercall.texts import pairing_in, pairing_text, word_in, word_text
from support import all_joinings, check_answer, check_error, fixed_chance, some_joining, some_word

# What is not a text of a call, as a word without blanks.
WRONG_WORDS = [
    "", ".", "-", "--", "0", "1", "0-", "-1", "0-1-", "-0-1", "0--1", "0-1-2", "1-0", "0-0", "3-2", "00-1", "0-01",
    "01-2", "0-00", "+0-1", "0-+1", "0_1", "0-1_0", "1_0-20", "a-b", "0-b", "a-1", "0x1-2", "0-1.", ".0-1", "0,1", "(0,",
    "0-1,", "0:1", "~", "0-1~", "0\t-1", "0-1\t", "\t0-1", "0-1\n", "0\u20141", "\u0660-\u0661", "0-\u0661", "\u00b2-3",
    "0-\u00b2", "0-1\u00a0", "0.0-1", "0-1e3", "1e0-2", "0-10000000000000", "00000000000000-1", "9999999999999-10000000000000",
    "0-11111111111111111111", "0-" + "9" * 5000, "9" * 5000 + "-0", "None", "True", "False-True",
]


def text_of_calls(calls):
    return " ".join(str(a) + "-" + str(b) for a, b in calls)


def first_wrong(text):
    """The index of the first word that is wrong for a pairing, told word by word; None if all are right."""
    words = text.split(" ")
    numbers = {str(x): x for x in range(2 * len(words))}
    pairs = []
    for at, word in enumerate(words):
        a, dash, b = word.partition("-")
        if dash != "-" or a not in numbers or b not in numbers or not numbers[a] < numbers[b]:
            return at
        pair = (numbers[a], numbers[b])
        if any(x in earlier for earlier in pairs for x in pair) or (pairs and pair < pairs[-1]):
            return at
        pairs.append(pair)
    return None


class ThereAndBack(unittest.TestCase):
    def test_answers(self):
        check_answer(self, pairing_text, "0-2 1-3", pairing=(2, 3, 0, 1))
        check_answer(self, pairing_text, "0-1", pairing=(1, 0))
        check_answer(self, word_text, "0-1 1-2", word=[(0, 1), (1, 2)])
        check_answer(self, word_text, "0-1 0-1", word=[(0, 1), (0, 1)])
        check_answer(self, word_text, ".", word=[])
        check_answer(self, pairing_in, (2, 3, 0, 1), text="0-2 1-3")
        check_answer(self, pairing_in, (1, 0), text="0-1")
        check_answer(self, word_in, [(0, 1), (5, 9)], text="0-1 5-9")
        check_answer(self, word_in, [(5, 9), (0, 1), (5, 9)], text="5-9 0-1 5-9")
        check_answer(self, word_in, [], text=".")
        check_answer(self, word_in, [(0, 9999999999999)], text="0-9999999999999")
        check_answer(self, word_text, "0-9999999999999", word=[(0, 9999999999999)])
        check_answer(self, word_in, [(1000000000000, 1000000000001)], text="1000000000000-1000000000001")

    def test_pairings(self):
        chance = fixed_chance(18)
        pairings = all_joinings(2) + all_joinings(4) + all_joinings(6)
        pairings += [some_joining(chance, size) for size in (8, 12, 20, 22, 40, 100, 300) for step in range(4)]
        for pairing in pairings:
            text = text_of_calls([(x, y) for x, y in enumerate(pairing) if x < y])
            check_answer(self, pairing_text, text, pairing=pairing)
            check_answer(self, pairing_in, pairing, text=text)

    def test_words(self):
        chance = fixed_chance(181)
        for size in (2, 4, 20, 100):
            for length in (1, 2, 5, 40, 1000):
                word = some_word(chance, size, length)
                check_answer(self, word_text, text_of_calls(word), word=word)
                check_answer(self, word_in, word, text=text_of_calls(word))


class WrongWords(unittest.TestCase):
    def test_wrong_words_alone(self):
        for text in WRONG_WORDS:
            if text != ".":
                check_error(self, word_in, BadText, {"at": 0}, text=text)
            check_error(self, pairing_in, BadText, {"at": 0}, text=text)

    def test_wrong_words_among_others(self):
        good = ["0-5", "1-2", "3-4"]
        for word in WRONG_WORDS:
            for at in range(4):
                words = good[:at] + [word] + good[at:]
                check_error(self, word_in, BadText, {"at": at}, text=" ".join(words))
                check_error(self, pairing_in, BadText, {"at": at}, text=" ".join(words))
                # The first of several counts.
                check_error(self, word_in, BadText, {"at": at}, text=" ".join(words + [word, "x"]))
                check_error(self, pairing_in, BadText, {"at": at}, text=" ".join(words + [word, "x"]))

    def test_blanks(self):
        for text, at in (("", 0), (" ", 0), ("  ", 0), (" 0-1", 0), ("0-1 ", 1), ("0-1  2-3", 1), ("0-1 2-3 ", 2),
                         (" .", 0), (". ", 0), (". .", 0), ("0-1 .", 1), (". 0-1", 0), ("0 -1", 0), ("0- 1", 0)):
            check_error(self, word_in, BadText, {"at": at}, text=text)
            check_error(self, pairing_in, BadText, {"at": at}, text=text)


class WrongPairings(unittest.TestCase):
    def test_answers(self):
        for text, at in (("0-2 1-2", 1), ("0-2 1-4", 1), ("0-2", 0), ("1-2", 0), ("0-4 1-2", 0), ("1-2 0-3", 1),
                         ("0-1 0-1", 1), ("2-3 0-1", 1), ("0-1 2-3 4-6", 2), ("0-1 1-2", 1), ("0-3 1-3", 1),
                         ("0-1 2-3 2-3", 2), ("0-1 4-5 2-3", 2), ("0-1 2-9999999999999", 1), (".", 0), ("0-1 3-4", 1),
                         ("1-3 0-2", 1), ("0-3 1-2 1-2 6-7", 2), ("0-1 2-4 3-6 5-7 8-9 8-9", 5)):
            check_error(self, pairing_in, BadText, {"at": at}, text=text)

    def test_all_texts_of_two_words(self):
        words = [f"{a}-{b}" for a in range(5) for b in range(5)]
        for first in words:
            for second in words:
                self.check(f"{first} {second}")

    def test_texts_by_chance(self):
        chance = fixed_chance(182)
        for size in (4, 6, 8, 20, 40):
            for step in range(60):
                pairing = some_joining(chance, size)
                words = text_of_calls([(x, y) for x, y in enumerate(pairing) if x < y]).split(" ")
                at, other = chance.randrange(len(words)), chance.randrange(len(words))
                kind = chance.randrange(5)
                if kind == 0:
                    words[at], words[other] = words[other], words[at]
                elif kind == 1:
                    words[at] = f"{chance.randrange(size + 2)}-{chance.randrange(size + 2)}"
                elif kind == 2:
                    words.pop(at)
                elif kind == 3:
                    words.insert(at, words[other])
                self.check(" ".join(words))

    def check(self, text):
        at = first_wrong(text)
        if at is None:
            self.assertEqual(pairing_text(pairing_in(text)), text)
        else:
            check_error(self, pairing_in, BadText, {"at": at}, text=text)


class Texts(unittest.TestCase):
    def test_people_below_zero(self):
        for word, person in (([(-1, 0)], -1), ([(0, 1), (-3, -2)], -3), ([(-10 ** 30, 5), (-1, 1)], -10 ** 30)):
            check_error(self, word_text, NoPerson, {"person": person}, word=word)


if __name__ == "__main__":
    unittest.main()
