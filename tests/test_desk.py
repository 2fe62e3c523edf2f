"""Point [19]: a desk beside a hall, and lines that are not valid."""

import unittest

from partnercall.desk import answers
from partnercall.errors import BadLine, Last, NoPerson, OtherSize
from partnercall.fewest import fewest_calls, word_for
from partnercall.hall import Hall
from support import (
    along_one_by_one, check_answer, check_error, cycles_many, fixed_chance, sheet_of_joins, sheet_one_by_one, some_call,
    some_joining, some_word,
)

START = "0-1 2-3"
# Lines of no form, whatever the hall.
WRONG_LINES = [
    "", " ", ".", "0-1 2-3", "call", "call ", "call .", "call 0", "call 1-0", "call 0-0", "call 0-1 2-3", "call  0-1",
    "call 0-1 ", " call 0-1", "call 0 1", "call 00-1", "call 0-01", "Call 0-1", "CALL 0-1", "call(0, 1)", "calls 0-1",
    "call -1-2", "call 0--1", "call 0-10000000000000", "call a-b", "run", "run ", "run  ", "run 0-1 ", "run 0-1  1-2",
    "run  0-1", "run . .", "run . 0-1", "run 0-1 .", "run 1-0", "run 0-1 x", "run 0", "run 0-1,1-2", "runs .", "repeat",
    "repeat ", "repeat 5", "repeat 5 ", "repeat 0-1", "repeat 0-1 5", "repeat . 5", "repeat  5 .", "repeat 5  .",
    "repeat 05 .", "repeat -1 .", "repeat +1 .", "repeat 1000000000001 .", "repeat 9999999999999 .",
    "repeat 10000000000000 .", "repeat 1.0 .", "repeat 1_0 .", "repeat x .", "repeat 5 . ", "repeat 5 5 .",
    "repeat 5 0-1 1-0", "become", "become ", "become .", "become 0-1 ", "become 2-3 0-1", "become 0-1 2-4",
    "become 0-2", "become 0-1 1-2", "become  0-1", "become 0", "come ", " come", "come 1", "come .", "comes", "Come",
    "leave", "leave ", "leave -1", "leave 01", "leave 00", "leave 0 1", "leave  0", "leave 0 ", "leave x", "leave 0-1",
    "leave 10000000000000", "leave +0", "leave .", "undo ", "undo 1", "undo undo", "redo", "show ", "show 0", "shows",
    "show show", "partner", "partner ", "partner 0 1", "partner 00", "partner -1", "partner x", "partner 0-1",
    "partner 12345678901234", "results", "results ", "results 0", "results 1-0", "results . ", "results . .", "settles",
    "settles ", "settles 0", "settles 0-1 ", "settles 3-1", "distance", "distance ", "distance .", "distance 1-0",
    "distance 0-1 0-1", "distance 0-1 3-4", "distance 2-3 0-1", "ways", "ways ", "ways .", "ways 0-2", "ways 0-1  2-3",
    "fewest", "fewest ", "fewest 0", "fewest 1-1", "fewest . .", "do", "do .", "twin", "log", "word", "pairing", "deeds",
    "len", "as_of 0", "begun", "sheet", "refused", "done", "nothing", "-", "call\t0-1", "come\t", "\tcome", "come\r",
    "show\r", "call 0-\u0661", "leave \u0661", "repeat \u0661 .", "leave \u00b2", "~", "call 0~1", "None", "True",
]


def pairing_as_text(pairing):
    return " ".join(f"{x}-{y}" for x, y in enumerate(pairing) if x < y)


def word_as_text(word):
    return " ".join(f"{a}-{b}" for a, b in word) or "."


def couple_as_text(couple):
    return "-" if couple is None else f"{couple[0]}-{couple[1]}"


def strands_many(size, word):
    """How many ends of the sheet of a word lead from above to below, by keeping the ends beside each other."""
    joined = {("low", x): ("up", x) for x in range(size)}
    joined.update({far: near for near, far in joined.items()})
    for a, b in word:
        a, b = ("low", a), ("low", b)
        u, v = joined[a], joined[b]
        if u != b:
            joined.update({a: b, b: a, u: v, v: u})
    return len([1 for x in range(size) if joined["low", x][0] == "up"])


def check_people(size, word):
    for call in word:
        for person in call:
            if not 0 <= person < size:
                raise NoPerson(person)


def check_size(pairing, other):
    if len(pairing) != len(other):
        raise OtherSize(len(other))


def settles_by_going(pairing, word):
    found = [pairing]
    while True:
        following = along_one_by_one(found[-1], word)[-1]
        if following in found:
            begin = found.index(following)
            return begin, len(found) - begin
        found.append(following)


def ways_by_search(one, other, steps):
    """The number of words of so many calls that lead from one to other."""
    if steps == 0:
        return int(one == other)
    calls = [(a, b) for a in range(len(one)) for b in range(a + 1, len(one))]
    following = [along_one_by_one(one, [call])[-1] for call in calls]
    nearer = [pairing for pairing in following if len(one) // 2 - cycles_many(pairing, other) == steps - 1]
    return sum(ways_by_search(pairing, other, steps - 1) for pairing in nearer)


def expected_answer(hall, name, *parts):
    """The answer to a request, from the deeds of a hall beside the desk and from searches."""
    pairing = hall.pairing()
    if name in ("run", "leave", "repeat"):
        return str(getattr(hall, name)(*parts))
    if name in ("call", "come"):
        return couple_as_text(getattr(hall, name)(*parts))
    if name == "become":
        return word_as_text(hall.become(*parts))
    if name == "undo":
        return "done" if hall.undo() else "nothing"
    if name == "show":
        return pairing_as_text(pairing)
    if name == "partner":
        check_people(len(pairing), [parts])
        return str(pairing[parts[0]])
    if name == "results":
        check_people(len(pairing), parts[0])
        many = 1
        for factor in range(1, strands_many(len(pairing), parts[0]), 2):
            many *= factor
        return str(many)
    if name == "fewest":
        check_people(len(pairing), parts[0])
        return str(fewest_calls(sheet_one_by_one(len(pairing), parts[0])))
    if name == "settles":
        check_people(len(pairing), parts[0])
        return "{} {}".format(*settles_by_going(pairing, parts[0]))
    check_size(pairing, parts[0])
    steps = len(pairing) // 2 - cycles_many(pairing, parts[0])
    return str(steps if name == "distance" else ways_by_search(pairing, parts[0], steps))


def answer_beside(hall, request):
    try:
        return expected_answer(hall, *request)
    except (NoPerson, OtherSize, Last) as error:
        return "refused " + error.__class__.__name__


def line_of(name, *parts):
    """The line of a request."""
    if name == "call":
        return f"call {parts[0]}-{parts[1]}"
    if name == "repeat":
        return f"repeat {parts[1]} {word_as_text(parts[0])}"
    if name in ("run", "results", "settles", "fewest"):
        return f"{name} {word_as_text(parts[0])}"
    if name in ("become", "distance", "ways"):
        return f"{name} {pairing_as_text(parts[0])}"
    return " ".join([name] + [str(part) for part in parts])


def some_request(chance, size):
    name = chance.choice(["call", "call", "run", "repeat", "become", "come", "leave", "undo", "show", "partner",
                          "results", "settles", "distance", "ways", "fewest"])
    bound = size + 2 if chance.random() < 0.1 else size
    if name == "call":
        return (name, *some_call(chance, bound))
    if name in ("run", "results", "settles", "fewest"):
        return (name, some_word(chance, bound, chance.randrange(5)))
    if name == "repeat":
        return (name, some_word(chance, bound, chance.randrange(5)), chance.choice([0, 1, 2, 77, 10 ** 12]))
    if name in ("become", "distance", "ways"):
        return (name, some_joining(chance, bound))
    if name == "come":
        return (name,) if size < 8 else ("undo",)
    if name in ("leave", "partner"):
        return (name, chance.randrange(bound))
    return (name,)


class Desk(unittest.TestCase):
    def test_answers(self):
        text = ("0-1 2-3\ncall 1-2\nshow\npartner 3\nresults 0-1\nfewest 0-1 1-2\nbecome 0-2 1-3\nundo\nleave 9")
        expected = ["0-3", "0-3 1-2", "0", "1", "2", "0-2", "done", "refused NoPerson"]
        check_answer(self, answers, expected, text=text)
        check_answer(self, answers, [], text="0-1")
        check_answer(self, answers, [], text=START)

    def test_each_line(self):
        for line, expected in (
                ("call 0-1", "-"), ("call 0-2", "1-3"), ("call 1-3", "0-2"), ("call 0-4", "refused NoPerson"),
                ("call 8-9", "refused NoPerson"), ("call 0-9999999999999", "refused NoPerson"),
                ("run .", "0"), ("run 0-1", "0"), ("run 1-2 1-2 0-1", "2"), ("run 0-1 0-7", "refused NoPerson"),
                ("repeat 0 0-2", "0"), ("repeat 1000000000000 0-2", "4"), ("repeat 3 .", "0"), ("repeat 2 0-1", "0"),
                ("repeat 0 0-4", "refused NoPerson"), ("become 0-1 2-3", "."), ("become 0-2 1-3", "0-2"),
                ("become 0-1", "refused OtherSize"), ("become 0-1 2-3 4-5", "refused OtherSize"), ("come", "4-5"),
                ("leave 0", "1"), ("leave 3", "2"), ("leave 4", "refused NoPerson"),
                ("leave 9999999999999", "refused NoPerson"), ("undo", "nothing"), ("show", "0-1 2-3"),
                ("partner 0", "1"), ("partner 3", "2"), ("partner 4", "refused NoPerson"), ("results .", "3"),
                ("results 0-1", "1"), ("results 0-4", "refused NoPerson"), ("settles .", "0 1"),
                ("settles 0-2", "1 1"), ("settles 0-1", "0 1"), ("settles 4-5", "refused NoPerson"),
                ("distance 0-1 2-3", "0"), ("distance 0-3 1-2", "1"), ("distance 0-1", "refused OtherSize"),
                ("ways 0-1 2-3", "1"), ("ways 0-3 1-2", "2"), ("ways 0-5 1-2 3-4", "refused OtherSize"),
                ("fewest .", "0"), ("fewest 0-1", "1"), ("fewest 0-1 0-1", "1"), ("fewest 0-1 1-2 0-1", "1"),
                ("fewest 0-1 2-3", "2"), ("fewest 0-6", "refused NoPerson")):
            check_answer(self, answers, [expected], text=f"{START}\n{line}")

    def test_two_people(self):
        text = "0-1\nleave 0\nleave 2\ncall 0-1\nresults .\nresults 0-1\nways 0-1\nsettles 0-1\nfewest 0-1\ncome\nleave 1\nshow"
        expected = ["refused Last", "refused NoPerson", "-", "1", "1", "1", "0 1", "1", "2-3", "0", "0-1"]
        check_answer(self, answers, expected, text=text)

    def test_sheets_are_for_the_people_there_now(self):
        text = "0-1 2-3\nresults 0-1\ncome\nresults 0-1\nfewest 4-5\nleave 0\nresults 0-1\nfewest 4-5\nundo\nundo\nresults ."
        expected = ["1", "4-5", "3", "1", "1", "1", "refused NoPerson", "done", "done", "3"]
        check_answer(self, answers, expected, text=text)

    def test_refused_requests_change_nothing(self):
        text = "0-1 2-3\ncall 0-2\ncall 0-4\nrun 0-1 0-4\nbecome 0-1\nleave 7\nshow\nundo\nundo\nshow"
        expected = ["1-3", "refused NoPerson", "refused NoPerson", "refused OtherSize", "refused NoPerson", "0-2 1-3",
                    "done", "nothing", "0-1 2-3"]
        check_answer(self, answers, expected, text=text)

    def test_beside_a_hall(self):
        chance = fixed_chance(19)
        seen = set()
        for start in (2, 2, 4, 4, 6, 6, 8, 8):
            pairing = some_joining(chance, start)
            hall = Hall(pairing)
            lines, expected = [pairing_as_text(pairing)], []
            for step in range(59):
                request = some_request(chance, len(hall))
                lines.append(line_of(*request))
                expected.append(answer_beside(hall, request))
                seen.add((request[0], expected[-1].startswith("refused")))
            check_answer(self, answers, expected, text="\n".join(lines))
        self.assertEqual(len({name for name, refused in seen}), 14)
        self.assertGreater(len([name for name, refused in seen if refused]), 8)

    def test_many_people(self):
        # A text may name more than 20 people.
        first = " ".join(f"{2 * x}-{2 * x + 1}" for x in range(51))
        turned = " ".join(["0-101"] + [f"{2 * x + 1}-{2 * x + 2}" for x in range(50)])
        self.assertLessEqual(len(first), 300)
        lines = [first, f"distance {turned}", f"ways {turned}", "results .", "come", "leave 102", f"become {turned}",
                 "show", "settles 0-2 1-3 4-6", "repeat 1000000000000 0-1 2-3", "fewest 100-101"]
        found = answers("\n".join(lines))
        results = 1
        for factor in range(1, 102, 2):
            results *= factor
        self.assertEqual(found[:5], ["50", str(2 ** 50 * 51 ** 49), str(results), "102-103", "103"])
        self.assertEqual(len(found[5].split(" ")), 50)
        self.assertEqual(found[6], turned)
        self.assertEqual(found[9], "1")

    def test_long_periods(self):
        # A word that turns groups of 3, 4, 5, 7 and 11 people, each group by one place, and joins the last two.
        numbers, first = list(range(30)), 0
        for many in (3, 4, 5, 7, 11):
            numbers[first:first + many] = [first + (at + 1) % many for at in range(many)]
            first += many
        sheet = sheet_of_joins(32, [(30, 31)], [(30, 31)], list(enumerate(numbers)))
        word = word_as_text(word_for(sheet))
        self.assertLessEqual(len(f"settles {word}"), 300)
        pairing = tuple(reversed(range(30))) + (31, 30)
        lines = [pairing_as_text(pairing), f"settles {word}", f"repeat 4620 {word}", "show", f"repeat 999999999999 {word}"]
        found = answers("\n".join(lines))
        begin, period = (int(part) for part in found[0].split(" "))
        self.assertEqual(begin, 0)
        self.assertEqual(4620 % period, 0)
        self.assertGreater(period, 1000)
        self.assertEqual(found[1:3], ["0", pairing_as_text(pairing)])


class WrongLines(unittest.TestCase):
    def test_wrong_lines(self):
        for line in WRONG_LINES:
            self.assertNotIn("\n", line)
            for at in range(1, 4):
                lines = [START, "come", "show", "undo"]
                lines.insert(at, line)
                check_error(self, answers, BadLine, {"at": at}, text="\n".join(lines))
                # The first of several counts.
                check_error(self, answers, BadLine, {"at": at}, text="\n".join(lines + [line, ""]))

    def test_first_line(self):
        wrong = ["", ".", " ", "0-2", "1-0", "0-1 ", " 0-1", "0-1  2-3", "2-3 0-1", "0-1 1-2", "0-1 3-4", "show", "x",
                 "00-1", "0-1 .", "call 0-1", "0", "-", "0-1-2", "\t0-1", "0-1\r"]
        for line in wrong:
            for rest in ("", "\nshow", "\n\n", "\ncall 9-1"):
                check_error(self, answers, BadLine, {"at": 0}, text=line + rest)

    def test_line_feeds(self):
        check_error(self, answers, BadLine, {"at": 1}, text="0-1\n")
        check_error(self, answers, BadLine, {"at": 2}, text="0-1\nshow\n")
        check_error(self, answers, BadLine, {"at": 1}, text="0-1\n\nshow")
        check_error(self, answers, BadLine, {"at": 0}, text="\n0-1\nshow")

    def test_wrong_lines_come_before_refused_ones(self):
        check_error(self, answers, BadLine, {"at": 2}, text="0-1 2-3\nleave 9\nleave x")

    def test_numbers_of_repetitions(self):
        for many in ("0", "1", "10", "999999999999", "1000000000000"):
            check_answer(self, answers, ["0"], text=f"0-1\nrepeat {many} 0-1")


if __name__ == "__main__":
    unittest.main()
