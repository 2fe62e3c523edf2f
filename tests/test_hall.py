"""Points [16] and [17]: a hall, deed by deed against pairings and words kept beside it."""

import copy
import inspect
import unittest

from partnercall.errors import BadDeed, Last, NoDeed, NoPerson, OtherSize
from partnercall.hall import Hall
from partnercall.sheets import sheet_of
from support import (
    ODD_VALUES, along_one_by_one, as_lists, as_tuples, check_error, check_great, first_way, fixed_chance,
    sheet_one_by_one, some_call, some_joining, some_word, spoil, swapped, without_couple,
)

P = (1, 0, 3, 2)
Q = (2, 3, 0, 1)
SIX = (1, 0, 3, 2, 5, 4)
GREAT = 10 ** 5000
METHODS = (
    "call run repeat become come leave undo do pairing word begun sheet deeds as_of twin log __len__ __eq__ __repr__ "
    "__init__"
).split()


def repeated_one_by_one(pairing, word, many):
    """The pairing after a word done many times, by going until one comes again."""
    found = [pairing]
    while len(found) <= many:
        following = along_one_by_one(found[-1], word)[-1]
        if following in found:
            begin = found.index(following)
            return found[begin + (many - begin) % (len(found) - begin)]
        found.append(following)
    return found[many]


class Beside:
    """The states of a hall after each deed, as (pairing, begun, word)."""

    def __init__(self, pairing):
        self.states = [(pairing, pairing, [])]

    def check_people(self, word):
        for call in word:
            for person in call:
                if not 0 <= person < len(self.states[-1][0]):
                    raise NoPerson(person)

    def go_on(self, word):
        pairing, begun, before = self.states[-1]
        self.states.append((along_one_by_one(pairing, word)[-1], begun, before + word))

    def begin_anew(self, pairing):
        self.states.append((pairing, pairing, []))

    def deed(self, name, *arguments):
        """Do a deed and return its result; the states change only if there is no error."""
        pairing = self.states[-1][0]
        if name == "call":
            self.check_people([arguments])
            a, b = arguments
            left = None if pairing[a] == b else tuple(sorted((pairing[a], pairing[b])))
            self.go_on([arguments])
            return left
        if name == "run":
            self.check_people(arguments[0])
            along = along_one_by_one(pairing, arguments[0])
            self.go_on(arguments[0])
            return len([at for at in range(len(arguments[0])) if along[at] != along[at + 1]])
        if name == "repeat":
            self.check_people(arguments[0])
            after = repeated_one_by_one(pairing, *arguments)
            self.begin_anew(after)
            return len([x for x in range(len(pairing)) if pairing[x] != after[x]])
        if name == "become":
            if len(arguments[0]) != len(pairing):
                raise OtherSize(len(arguments[0]))
            word = first_way(pairing, arguments[0])
            self.go_on(word)
            return word
        if name == "come":
            self.begin_anew(pairing + (len(pairing) + 1, len(pairing)))
            return (len(pairing), len(pairing) + 1)
        self.check_people([arguments])
        if len(pairing) == 2:
            raise Last()
        self.begin_anew(without_couple(pairing, arguments[0]))
        return pairing[arguments[0]]


def some_deed(chance, size):
    """A deed for size people, by chance; some of them raise errors."""
    name = chance.choice(["call", "call", "run", "run", "repeat", "become", "become", "come", "leave"])
    wrong = chance.random() < 0.12
    bound = size + 2 if wrong else size
    if name == "call":
        return ("call", *some_call(chance, bound))
    if name == "run":
        return ("run", some_word(chance, bound, chance.randrange(6)))
    if name == "repeat":
        many = chance.choice([0, 1, 2, 3, 1000, 10 ** 12 - 1, 10 ** 12])
        return ("repeat", some_word(chance, bound, chance.randrange(7)), many)
    if name == "become":
        return ("become", some_joining(chance, bound))
    if name == "come":
        # Halls stay small enough to be searched.
        return ("come",) if size < 10 else ("leave", chance.randrange(size))
    return ("leave", chance.randrange(-1, bound) if wrong else chance.randrange(size))


def outcome(do):
    """What a deed returns, or the class and the attributes of its error."""
    try:
        return repr(do())
    except (NoPerson, OtherSize, Last) as error:
        return (error.__class__, vars(error))


def do_deed(hall, deed):
    return getattr(hall, deed[0])(*deed[1:])


def all_answers(hall):
    """Everything that a hall tells of its state."""
    return [hall.pairing(), hall.word(), hall.begun(), hall.sheet(), hall.deeds(), len(hall), repr(hall)]


class Halls(unittest.TestCase):
    def check_state(self, hall, states):
        pairing, begun, word = states[-1]
        size = len(pairing)
        expected = [
            pairing, word, begun, sheet_one_by_one(size, word), len(states) - 1, size, f"Hall({size} people)",
        ]
        self.assertEqual(repr(all_answers(hall)), repr(expected))
        # A new hall that has done the same word since then answers alike.
        new = Hall(begun)
        new.run(word)
        self.assertEqual(repr(all_answers(new)[:4]), repr(expected[:4]))
        self.assertTrue(new == hall)
        self.assertIs(hall == Hall(pairing), True)
        self.assertIs(hall != Hall(pairing), False)

    def check_error(self, error, attributes, hall, do):
        """The call raises this very error and changes nothing."""
        before, log = repr(all_answers(hall)), hall.log()
        with self.assertRaises(error) as caught:
            do()
        self.assertIs(caught.exception.__class__, error)
        self.assertEqual(vars(caught.exception), attributes)
        self.assertEqual(repr(all_answers(hall)), before)
        self.assertEqual(hall.log(), log)


class Interface(unittest.TestCase):
    def test_methods_stand_in_the_class(self):
        for name in METHODS:
            self.assertIn(name, vars(Hall))

    def test_names_of_parameters(self):
        expected = {
            "__init__": ["pairing"], "call": ["a", "b"], "run": ["word"], "repeat": ["word", "many"],
            "become": ["goal"], "come": [], "leave": ["person"], "undo": [], "do": ["deeds", "whole"], "pairing": [],
            "word": [], "begun": [], "sheet": [], "deeds": [], "as_of": ["many"], "twin": [], "log": [],
        }
        for name, parameters in expected.items():
            found = inspect.signature(vars(Hall)[name]).parameters
            self.assertEqual(list(found)[1:], parameters)
        self.assertEqual(inspect.signature(Hall.do).parameters["whole"].kind, inspect.Parameter.KEYWORD_ONLY)
        self.assertIs(inspect.signature(Hall.do).parameters["whole"].default, True)


class Deeds(Halls):
    def test_answers(self):
        self.assertEqual([Hall(P).call(1, 2), Hall(P).call(0, 1)], [(0, 3), None])
        self.assertEqual(Hall(P).run([(1, 2), (1, 2), (0, 1)]), 2)
        self.assertEqual(Hall(Q).repeat([(0, 1)], 10 ** 12), 4)
        self.assertEqual(Hall(Q).repeat([(0, 1)], 0), 0)
        self.assertEqual(Hall(P).repeat([(0, 1)], 5), 0)
        self.assertEqual(Hall(P).become(Q), [(0, 2)])
        self.assertEqual(Hall(P).become(P), [])
        self.assertEqual([Hall(P).come(), Hall(Q).leave(1)], [(4, 5), 3])
        self.assertIs(Hall(P).undo(), False)

    def test_by_name_and_with_lists(self):
        hall = Hall(pairing=[1, 0, 3, 2])
        self.assertEqual(hall.call(a=1, b=2), (0, 3))
        self.assertEqual(hall.run(word=([0, 1], [2, 3])), 1)
        self.assertEqual(hall.repeat(word=[[0, 2]], many=3), 4)
        self.assertEqual(hall.become(goal=[1, 0, 3, 2]), [(0, 1)])
        self.assertEqual(hall.leave(person=3), 2)
        self.assertEqual(hall.do(deeds=(("come",),), whole=False), [(2, 3)])
        self.assertEqual(hall.as_of(many=5).pairing(), (1, 0))
        self.assertEqual(hall.deeds(), 6)

    def test_word_begins_anew(self):
        hall = Hall(SIX)
        hall.call(0, 2)
        hall.run([(1, 3), (4, 5)])
        self.assertEqual(hall.word(), [(0, 2), (1, 3), (4, 5)])
        self.assertEqual(hall.begun(), SIX)
        word = hall.become(SIX)
        self.assertEqual(hall.word(), [(0, 2), (1, 3), (4, 5)] + word)
        for deed in (("come",), ("leave", 0), ("repeat", [], 0), ("repeat", [(0, 1)], 7)):
            hall.call(0, 1)
            before = all_answers(hall)
            do_deed(hall, deed)
            self.assertEqual(hall.word(), [])
            self.assertEqual(hall.begun(), hall.pairing())
            hall.call(0, 3)
            self.assertEqual(hall.word(), [(0, 3)])
            # When it is undone, the word goes on from before.
            self.assertTrue(hall.undo() and hall.undo())
            self.assertEqual(all_answers(hall), before)

    def test_idle_calls_are_in_the_word(self):
        hall = Hall(P)
        self.assertIsNone(hall.call(0, 1))
        self.assertEqual(hall.run([(2, 3)]), 0)
        self.assertEqual(hall.run([]), 0)
        self.assertEqual(hall.become(P), [])
        self.assertEqual(hall.word(), [(0, 1), (2, 3)])
        self.assertEqual(hall.deeds(), 4)
        self.assertEqual([hall.undo() for step in range(5)], [True] * 4 + [False])

    def test_errors(self):
        for size in (2, 4, 20):
            hall = Hall(tuple(x ^ 1 for x in range(size)))
            if size > 2:
                hall.call(0, 3)
            for a, b, person in ((0, size, size), (-1, 0, -1), (-2, size, -2), (size, size + 1, size),
                                 (0, GREAT, GREAT), (-GREAT, GREAT, -GREAT)):
                self.check_error(NoPerson, {"person": person}, hall, lambda: hall.call(a, b))
                self.check_error(NoPerson, {"person": person}, hall, lambda: hall.run([(0, 1), (a, b), (-9, 99)]))
                for many in (0, 1, 10 ** 12):
                    self.check_error(NoPerson, {"person": person}, hall, lambda: hall.repeat([(0, 1), (a, b)], many))
            for person in (size, -1, -size, 10 ** 30, GREAT, -GREAT):
                self.check_error(NoPerson, {"person": person}, hall, lambda: hall.leave(person))
            for other in (6, 8, 22):
                goal = tuple(reversed(range(other)))
                self.check_error(OtherSize, {"size": other}, hall, lambda: hall.become(goal))
        for person in (0, 1):
            hall = Hall((1, 0))
            self.check_error(Last, {}, hall, lambda: hall.leave(person))

    def test_by_chance(self):
        # Guarantee (h): deed by deed, with undo and deeds that raise errors.
        chance = fixed_chance(16)
        for start in (2, 4, 4, 6, 8, 10):
            pairing = some_joining(chance, start)
            hall, beside = Hall(pairing), Beside(pairing)
            for step in range(80):
                if chance.random() < 0.2:
                    self.assertIs(hall.undo(), len(beside.states) > 1)
                    beside.states = beside.states[:-1] or beside.states
                else:
                    deed = some_deed(chance, len(hall))
                    form = chance.choice([copy.deepcopy, as_lists, as_tuples, swapped])
                    passed = [form(part) for part in deed[1:]]
                    found = outcome(lambda: getattr(hall, deed[0])(*passed))
                    self.assertEqual(repr(passed), repr([form(part) for part in deed[1:]]))
                    self.assertEqual(found, outcome(lambda: beside.deed(*deed)))
                    spoil(passed)
                self.check_state(hall, beside.states)
            self.assertEqual(hall.log(), [])
            for many in range(len(beside.states)):
                self.check_state(hall.as_of(many), beside.states[:many + 1])

    def test_many_people_and_deeds(self):
        chance = fixed_chance(161)
        pairing = some_joining(chance, 20)
        hall, beside = Hall(pairing), Beside(pairing)
        for step in range(79):
            word = some_word(chance, 20, 25)
            self.assertEqual(hall.run(word), beside.deed("run", word))
        goal = some_joining(chance, 20)
        self.assertEqual(hall.become(goal), beside.deed("become", goal))
        self.check_state(hall, beside.states)
        self.assertEqual(hall.deeds(), 80)
        for step in range(80):
            self.assertIs(hall.undo(), True)
            beside.states.pop()
            self.assertEqual(hall.pairing(), beside.states[-1][0])
        self.check_state(hall, beside.states)


class Queries(Halls):
    def test_repr_len_and_equality(self):
        self.assertEqual([repr(Hall(P)), len(Hall(P)), Hall(P) == Hall([1, 0, 3, 2])], ["Hall(4 people)", 4, True])
        self.assertEqual([repr(Hall((1, 0))), len(Hall((1, 0)))], ["Hall(2 people)", 2])
        twenty = Hall(tuple(reversed(range(20))))
        self.assertEqual([repr(twenty), len(twenty)], ["Hall(20 people)", 20])
        self.assertIs(Hall(P) == Hall(Q), False)
        self.assertIs(Hall(P) != Hall(Q), True)
        self.assertIs(Hall(P) == Hall(SIX), False)
        for value in ODD_VALUES + [P, list(P), "Hall(4 people)"]:
            self.assertIs(Hall(P) == value, False)
            self.assertIs(value == Hall(P), False)
            self.assertIs(Hall(P) != value, True)

    def test_equality_is_of_the_pairing_only(self):
        one, other = Hall(P), Hall(Q)
        one.call(0, 2)
        other.come()
        other.leave(4)
        self.assertIs(one == other, True)
        self.assertIs(one == one.twin(), True)
        one.undo()
        self.assertIs(one == other, False)

    def test_as_of_and_twin(self):
        hall = Hall(P)
        hall.do([("call", 1, 2), ("come",), ("run", [(0, 4), (1, 5)]), ("leave", 1)])
        before = all_answers(hall)
        pairings = [P, (3, 2, 1, 0), (3, 2, 1, 0, 5, 4)]
        for many, pairing in enumerate(pairings):
            earlier = hall.as_of(many)
            self.assertIs(earlier.__class__, Hall)
            self.assertEqual(earlier.pairing(), pairing)
            self.assertEqual(earlier.deeds(), many)
            self.assertEqual(earlier.log(), [])
            # What is done there has no effect here.
            earlier.do([("come",)])
            self.assertEqual(earlier.log(), [("in", 1), "come", ("out", 1)])
            for step in range(many + 1):
                self.assertIs(earlier.undo(), True)
            self.assertIs(earlier.undo(), False)
            self.assertEqual(earlier.pairing(), P)
            self.assertEqual(all_answers(hall), before)
        twin = hall.twin()
        self.assertEqual(all_answers(twin), before)
        self.assertEqual(twin.log(), [])
        hall.come()
        self.assertEqual(all_answers(twin), before)
        hall.undo()
        twin.undo()
        twin.undo()
        self.assertEqual(all_answers(hall), before)
        self.assertEqual(twin.word(), [])
        self.assertEqual(twin.deeds(), 2)

    def test_as_of_keeps_the_word(self):
        hall = Hall(SIX)
        hall.call(0, 2)
        hall.repeat([(1, 4)], 2)
        hall.call(0, 1)
        hall.call(2, 3)
        earlier = hall.as_of(3)
        self.assertEqual(earlier.word(), [(0, 1)])
        self.assertEqual(earlier.begun(), hall.as_of(2).pairing())
        self.assertEqual(earlier.sheet(), sheet_of(6, [(0, 1)]))
        earlier.undo()
        earlier.undo()
        self.assertEqual(earlier.word(), [(0, 2)])
        self.assertEqual(earlier.begun(), SIX)

    def test_no_deed(self):
        hall = Hall(P)
        for deeds in range(3):
            for many in (-1, -2, deeds + 1, deeds + 2, 10 ** 30, -10 ** 30, GREAT, -GREAT):
                self.check_error(NoDeed, {"many": many}, hall, lambda: hall.as_of(many))
            hall.come()
        hall.undo()
        self.check_error(NoDeed, {"many": 3}, hall, lambda: hall.as_of(3))

    def test_nothing_is_kept_of_arguments(self):
        pairing = [1, 0, 3, 2]
        hall = Hall(pairing)
        pairing[0] = 9
        word = [[1, 2], [0, 3]]
        hall.run(word)
        spoil(word)
        goal = [1, 0, 3, 2]
        hall.become(goal)
        spoil(goal)
        deeds = [("run", [[0, 1]]), ("become", [2, 3, 0, 1])]
        hall.do(deeds)
        spoil(deeds[0][1])
        spoil(deeds[1][1])
        spoil(deeds)
        self.assertEqual(hall.word(), [(1, 2), (0, 3), (0, 1), (0, 1), (0, 2)])
        self.assertEqual(hall.pairing(), Q)
        self.assertEqual(hall.begun(), P)
        self.assertEqual(hall.log(), [("in", 2), "run", "become", ("out", 2)])

    def test_returned_lists_are_new(self):
        hall = Hall(P)
        spoil(hall.become(Q))
        for result in hall.do([("become", P), ("run", [(0, 1)])]):
            spoil(result)
        expected, log = repr(all_answers(hall)), hall.log()
        for step in range(2):
            spoil(hall.word())
            spoil(hall.log())
            self.assertEqual(repr(all_answers(hall)), expected)
            self.assertEqual(hall.log(), log)
        self.assertEqual(hall.word(), [(0, 2), (0, 1), (0, 1)])

    def test_kinds_of_answers(self):
        hall = Hall(list(P))
        hall.do([("run", ([0, 2],)), ("become", list(P))])
        for answer in (hall.pairing(), hall.begun(), hall.sheet()):
            self.assertIs(answer.__class__, tuple)
        self.assertIs(hall.word().__class__, list)
        self.assertTrue(all(call.__class__ is tuple for call in hall.word()))


class Do(Halls):
    def test_answers(self):
        deeds = [("call", 1, 2), ("come",), ("leave", 0)]
        self.assertEqual(Hall(P).do(deeds), [(0, 3), (4, 5), 3])
        self.assertEqual(Hall(P).do([]), [])
        self.assertEqual(Hall(P).do(()), [])
        self.assertEqual(Hall(P).do([("become", Q), ("run", []), ("repeat", [(0, 1)], 2)]), [[(0, 2)], 0, 4])

    def test_bad_deeds(self):
        bad = [
            ["come"], ["call", 1, 2], "come", "call", ("undo",), ("do", []), ("pairing",), ("twin",), ("word",), (),
            ("come", 1), ("call", 1), ("call", 1, 2, 3), ("call",), ("run",), ("run", [], 1), ("repeat", []),
            ("repeat", [], 1, 2), ("become",), ("become", P, Q), ("leave",), ("leave", 0, 1), ("Call", 1, 2), ("",),
            (" come",), (None,), (0,), (True,), (["call"], 1, 2), (("come",),), (["come"],), ((),), ([],), None, 0, True,
            5, GREAT, (GREAT,), [], [[]], ("come", None), (None, "come"), ("__init__", P), ("log",), ("as_of", 1),
            ((("call",),), 1, 2), ("keep", 1, 2), ("do_one", ("come",)), ("leave ", 0), {}, ({},), ({"call": 1}, 1, 2),
            (1.5,), Hall(P), (Hall(P),), ("deeds",), ("begun",), ("sheet",),
        ]
        for item in bad:
            for whole in (True, False):
                hall = Hall(P)
                hall.call(0, 2)
                for at in range(3):
                    deeds = [("come",), ("leave", 99), ("call", 0, 1)][:at] + [item, ("come",), ["come"]]
                    self.check_error(BadDeed, {"at": at}, hall, lambda: hall.do(deeds, whole=whole))
                    self.check_error(BadDeed, {"at": at}, hall, lambda: hall.do(tuple(deeds), whole=whole))
        for item in ODD_VALUES:
            hall = Hall(P)
            self.check_error(BadDeed, {"at": 1}, hall, lambda: hall.do([("come",), item]))

    def test_error_of_a_deed(self):
        bad = [
            (("call", 0, 9), NoPerson, {"person": 9}), (("run", [(0, 1), (-1, 3)]), NoPerson, {"person": -1}),
            (("repeat", [(0, GREAT)], 2), NoPerson, {"person": GREAT}), (("leave", -7), NoPerson, {"person": -7}),
            (("become", P), OtherSize, {"size": 4}),
        ]
        for item, error, attributes in bad:
            deeds = [("call", 1, 2), ("come",), item, ("come",), ("leave", -1)]
            hall = Hall(P)
            hall.come()
            hall.leave(0)
            before = repr(all_answers(hall))
            self.check_log(hall, deeds, {"whole": True}, error, attributes, [])
            self.assertEqual(repr(all_answers(hall)), before)
            first = hall.log()
            self.assertEqual(first, [("in", 5), "call", "come", ("out", 2)])
            self.check_log(hall, deeds, {}, error, attributes, first)
            self.assertEqual(repr(all_answers(hall)), before)
            self.check_log(hall, deeds, {"whole": False}, error, attributes, first + first)
            # The earlier ones are in effect, and each is undone by itself.
            self.assertEqual(hall.deeds(), 4)
            self.assertEqual(hall.pairing(), (3, 2, 1, 0, 5, 4))
            hall.undo()
            self.assertEqual(hall.word(), [(1, 2)])
            hall.undo()
            self.assertEqual(repr(all_answers(hall)), before)
            self.assertEqual(hall.log(), first * 3)

    def check_log(self, hall, deeds, how, error, attributes, log):
        self.assertEqual(hall.log(), log)
        with self.assertRaises(error) as caught:
            hall.do(deeds, **how)
        self.assertIs(caught.exception.__class__, error)
        self.assertEqual(vars(caught.exception), attributes)
        self.assertEqual(hall.log(), log + [("in", 5), "call", "come", ("out", 2)])

    def test_last_in_a_row(self):
        hall = Hall(P)
        with self.assertRaises(Last):
            hall.do([("leave", 0), ("leave", 0), ("come",)])
        self.assertEqual(hall.pairing(), P)
        self.assertEqual(hall.log(), [("in", 3), "leave", ("out", 1)])
        with self.assertRaises(Last):
            hall.do([("leave", 0), ("leave", 0), ("come",)], whole=False)
        self.assertEqual(hall.pairing(), (1, 0))
        self.assertEqual(hall.deeds(), 1)

    def test_log(self):
        hall = Hall(P)
        hall.call(0, 2)
        hall.undo()
        hall.come()
        self.assertEqual(hall.log(), [])
        hall.do([])
        self.assertEqual(hall.log(), [("in", 0), ("out", 0)])
        hall.do([("call", 0, 2), ("repeat", [(0, 1)], 4)])
        expected = [("in", 0), ("out", 0), ("in", 2), "call", "repeat", ("out", 2)]
        self.assertEqual(hall.log(), expected)
        with self.assertRaises(BadDeed):
            hall.do([("come",), ("undo",)])
        self.assertEqual(hall.log(), expected)
        with self.assertRaises(NoPerson):
            hall.do([("leave", 50)])
        expected += [("in", 1), ("out", 0)]
        self.assertEqual(hall.log(), expected)
        for step in range(3):
            hall.undo()
        self.assertEqual(hall.log(), expected)
        self.assertEqual(hall.twin().log(), [])

    def test_by_chance(self):
        # Rows of deeds, whole or not, against the deeds one by one.
        chance = fixed_chance(162)
        failed = 0
        for start in (2, 4, 6, 8):
            pairing = some_joining(chance, start)
            hall, beside, log = Hall(pairing), Beside(pairing), []
            for step in range(15):
                whole = chance.choice([True, False])
                rows = [some_deed(chance, len(hall)) for at in range(chance.randrange(6))]
                before = list(beside.states)
                done, expected = [], None
                for deed in rows:
                    found = outcome(lambda: done.append(beside.deed(*deed)))
                    if found != "None":
                        expected = found
                        break
                log += [("in", len(rows))] + [deed[0] for deed in rows[:len(done)]] + [("out", len(done))]
                if expected is not None:
                    failed += 1
                    beside.states = before if whole else beside.states
                passed = [(deed[0], *[as_lists(part) for part in deed[1:]]) for deed in rows]
                self.assertEqual(outcome(lambda: hall.do(passed, whole=whole)), expected or repr(done))
                self.assertEqual(hall.log(), log)
                self.check_state(hall, beside.states)
                while len(beside.states) > 20:
                    hall.undo()
                    beside.states.pop()
                if chance.random() < 0.3:
                    self.assertIs(hall.undo(), len(beside.states) > 1)
                    beside.states = beside.states[:-1] or beside.states
        self.assertGreater(failed, 5)


class Support(unittest.TestCase):
    def test_errors_can_be_seen_in_every_form(self):
        hall = Hall(P)
        check_error(self, hall.call, NoPerson, {"person": 4}, a=1, b=4)
        check_error(self, hall.run, NoPerson, {"person": 4}, word=[(0, 1), (1, 4)])
        check_error(self, hall.repeat, NoPerson, {"person": 4}, word=[(0, 1), (1, 4)], many=10 ** 12)
        check_error(self, hall.become, OtherSize, {"size": 6}, goal=SIX)
        check_error(self, hall.leave, NoPerson, {"person": 4}, person=4)
        check_error(self, Hall((1, 0)).leave, Last, {}, person=1)
        check_error(self, hall.as_of, NoDeed, {"many": 1}, many=1)
        check_great(self, hall.leave, NoPerson, "person", GREAT, person=GREAT)
        check_great(self, hall.as_of, NoDeed, "many", -GREAT, many=-GREAT)
        self.assertEqual(hall.deeds(), 0)


if __name__ == "__main__":
    unittest.main()
