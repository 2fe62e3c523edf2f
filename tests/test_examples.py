"""The examples of the document, as they stand there."""

import re
import unittest

from partnercall import (
    between, calls, desk, errors, fewest, hall, pairings, people, reading, repeats, results, same, settling, sheets,
    small, texts,
)

# The text of the examples of points [4] to [19].
EXAMPLES = """
>>> [is_pairing((1, 0, 3, 2)), is_pairing((1, 2, 0, 3))]
[True, False]
>>> [couples(q), pairing_of([(3, 1), (0, 2)])]
[[(0, 2), (1, 3)], (2, 3, 0, 1)]
>>> [pairings_many(6), pairing_at(4, 1), pairing_number((3, 2, 1, 0))]
[15, (2, 3, 0, 1), 2]
>>> pairing_at(4, 3)
raises NoNumber(number=3)
>>> called(p, (1, 2))
(3, 2, 1, 0)
>>> called(p, (1, 4))
raises NoPerson(person=4)
>>> called_all(p, [(1, 2), (0, 1)])
(1, 0, 3, 2)
>>> pairings_along(p, [(1, 2), (1, 2)])
[(1, 0, 3, 2), (3, 2, 1, 0), (3, 2, 1, 0)]
>>> idle_calls(p, [(1, 2), (1, 2)])
[1]
>>> [is_sheet((2, 3, 0, 1)), is_sheet((1, 0, 3)), is_sheet((1, 0))]
[True, False, False]
>>> [empty_sheet(2), sheet_of(4, [(0, 1)]), with_call(one, (1, 2))]
[(2, 3, 0, 1), (1, 0, 6, 7, 5, 4, 2, 3), (1, 0, 4, 7, 2, 6, 5, 3)]
>>> [upper_pairs(one), lower_pairs(with_call(one, (1, 2))), strands(with_call(one, (1, 2)))]
[[(0, 1)], [(1, 2)], [(2, 0), (3, 3)]]
>>> followed(one, sheet_of(4, [(1, 2)]))
(1, 0, 4, 7, 2, 6, 5, 3)
>>> [times(one, 10 ** 12), mirrored(with_call(one, (1, 2)))]
[(1, 0, 6, 7, 5, 4, 2, 3), (6, 2, 1, 7, 5, 4, 0, 3)]
>>> result(one, q)
(1, 0, 3, 2)
>>> [path(one, q, 2), path(one, q, 0)]
[[6, 2, 0, 1, 3, 7], [4, 5]]
>>> [shows_path(one, q, 2, [6, 2, 0, 1, 3, 7]), couples_on(one, q, 2)]
[True, [(0, 2), (1, 3)]]
>>> [results_many(one), results_many(wide), result_at(wide, 1)]
[1, 3, (1, 0, 4, 5, 2, 3)]
>>> [result_bar(wide, (2, 3, 0, 1, 5, 4)), result_number(wide, (1, 0, 5, 4, 3, 2))]
[(0, 1), 2]
>>> result_number(wide, (2, 3, 0, 1, 5, 4))
raises NotResult(pair=(0, 1))
>>> [beginnings_many(wide, six), beginnings_many(wide, (2, 3, 0, 1, 5, 4))]
[5, 0]
>>> [beginning_at(wide, six, 3), beginning_number(wide, (4, 5, 3, 2, 0, 1))]
[(4, 5, 3, 2, 0, 1), 3]
>>> [do_same(one, sheet_of(4, [(2, 3)])), do_same(wide, sheet_of(6, [(2, 3)]))]
[True, False]
>>> do_same(empty_sheet(4), (5, 4, 7, 6, 1, 0, 3, 2))
True
>>> parting(one, sheet_of(4, [(2, 3)]))
None
>>> shows_parting(wide, sheet_of(6, [(2, 3)]), (4, 2, 1, 5, 0, 3))
True
>>> [is_settled(one), settled_pairing(one), is_settled(wide)]
[True, (1, 0, 3, 2), False]
>>> settled_pairing(wide)
raises NotSettled(many=3)
>>> [sure_couples(wide), sure_couples(one), partners_of(wide, 2)]
[[(0, 1)], [(0, 1), (2, 3)], [3, 4, 5]]
>>> [fewest_to_settle(empty_sheet(6)), len(word_to_settle(empty_sheet(6))), settle_word(six)]
[2, 2, [(0, 1), (2, 3)]]
>>> [cycles(p, q), cycles(p, p)]
[[(0, 1, 3, 2)], [(0, 1), (2, 3)]]
>>> [distance(p, q), words_many(p, q), distance(six, (5, 2, 1, 4, 3, 0)), words_many(six, (5, 2, 1, 4, 3, 0))]
[1, 2, 2, 12]
>>> [word_at(p, q, 0), word_number(p, q, [(1, 3)])]
[[(0, 2)], 1]
>>> word_number(p, q, [(0, 1)])
raises NotShortest
>>> [leads(p, q, [(0, 3), (0, 2)]), leads(p, q, [(0, 3)])]
[True, False]
>>> [loops(one), loops((1, 0, 7, 6, 5, 4, 3, 2)), pure_loops((1, 0, 7, 6, 5, 4, 3, 2))]
[[(0, 1), (2,), (3,)], [(0, 1), (2, 3)], [(2, 3)]]
>>> [fewest_calls(one), fewest_calls((1, 0, 7, 6, 5, 4, 3, 2)), len(word_for((1, 0, 7, 6, 5, 4, 3, 2)))]
[1, 4, 4]
>>> fewest_calls((5, 4, 6, 7, 1, 0, 2, 3))
raises NoWord
>>> [fewest_same((1, 0, 7, 6, 5, 4, 3, 2)), fewest_same((5, 4, 7, 6, 1, 0, 3, 2)), word_same((5, 4, 7, 6, 1, 0, 3, 2))]
[1, 0, []]
>>> fewest_same((5, 4, 6, 7, 1, 0, 2, 3))
raises NoWord
>>> [repeated(q, [(0, 1)], 10 ** 12), repeated(six, [(1, 2), (3, 4), (0, 1), (2, 3)], 0)]
[(1, 0, 3, 2), (1, 0, 3, 2, 5, 4)]
>>> [settles(q, [(0, 1)]), settles(p, [])]
[(1, 1), (0, 1)]
>>> [sheet_settles(4, [(0, 1)]), sheet_settles(4, [])]
[(1, 1), (0, 1)]
>>> [first_time(q, [(0, 1)], 0, 1), first_time(q, [(0, 1)], 0, 3)]
[1, None]
>>> [len(all_sheets(2)), len(all_sheets(4)), all_sheets(2)]
[2, 82, [(1, 0, 3, 2), (2, 3, 0, 1)]]
>>> [first_word((1, 0, 4, 7, 2, 6, 5, 3)), first_word((5, 4, 6, 7, 1, 0, 2, 3))]
[[(0, 1), (1, 2)], None]
>>> [words_with(one, 1), words_with(one, 2), words_with(empty_sheet(4), 1)]
[1, 1, 0]
>>> [renumbered(q, (1, 0, 2, 3)), word_renumbered([(0, 2)], (3, 1, 2, 0)), sheet_renumbered(one, (2, 3, 0, 1))]
[(3, 2, 1, 0), [(2, 3)], (4, 5, 3, 2, 0, 1, 7, 6)]
>>> [joined(p, (1, 0)), sheets_joined(empty_sheet(2), (1, 0, 3, 2))]
[(1, 0, 3, 2, 5, 4), (4, 5, 3, 2, 0, 1, 7, 6)]
>>> without((3, 4, 5, 0, 1, 2), 1)
(2, 3, 0, 1)
>>> [Hall(p).call(1, 2), Hall(p).call(0, 1)]
[(0, 3), None]
>>> Hall(p).run([(1, 2), (1, 2), (0, 1)])
2
>>> Hall(q).repeat([(0, 1)], 10 ** 12)
4
>>> Hall(p).become(q)
[(0, 2)]
>>> [Hall(p).come(), Hall(q).leave(1)]
[(4, 5), 3]
>>> Hall(p).do([("call", 1, 2), ("come",), ("leave", 0)])
[(0, 3), (4, 5), 3]
>>> Hall(p).do([("call", 1, 2), ["come"]])
raises BadDeed(at=1)
>>> [repr(Hall(p)), len(Hall(p)), Hall(p) == Hall([1, 0, 3, 2])]
['Hall(4 people)', 4, True]
>>> [pairing_text(q), word_text([(0, 1), (1, 2)]), word_text([])]
['0-2 1-3', '0-1 1-2', '.']
>>> [pairing_in("0-2 1-3"), word_in("0-1 5-9"), word_in(".")]
[(2, 3, 0, 1), [(0, 1), (5, 9)], []]
>>> pairing_in("0-2 1-2")
raises BadText(at=1)
>>> answers("0-1 2-3\\ncall 1-2\\nshow\\npartner 3\\nresults 0-1\\nfewest 0-1 1-2\\nbecome 0-2 1-3\\nundo\\nleave 9")
['0-3', '0-3 1-2', '0', '1', '2', '0-2', 'done', 'refused NoPerson']
"""


def names_for_examples():
    names = {}
    modules = (pairings, calls, sheets, reading, results, same, settling, between, fewest, repeats, small, people, hall,
               texts, desk)
    for module in modules:
        names.update(vars(module))
    names["p"] = (1, 0, 3, 2)
    names["q"] = (2, 3, 0, 1)
    names["six"] = (1, 0, 3, 2, 5, 4)
    names["one"] = sheets.sheet_of(4, [(0, 1)])
    names["wide"] = sheets.sheet_of(6, [(0, 1)])
    return names


def shown_error(error, attributes):
    """An error as the document shows it, with the attributes whose names are given."""
    inside = ", ".join(f"{name}={getattr(error, name)!r}" for name in attributes)
    return f"raises {error.__class__.__name__}" + (f"({inside})" if inside else "")


class Examples(unittest.TestCase):
    def test_examples(self):
        names = names_for_examples()
        lines = EXAMPLES.strip().split("\n")
        self.assertEqual(len(lines), 2 * 62)
        for query, expected in zip(lines[::2], lines[1::2]):
            with self.subTest(query):
                self.assertTrue(query.startswith(">>> "))
                if expected.startswith("raises "):
                    raised = re.match(r"raises (\w+)", expected).group(1)
                    with self.assertRaises(getattr(errors, raised)) as caught:
                        eval(query[4:], dict(names))
                    attributes = re.findall(r"(\w+)=", expected)
                    self.assertEqual(shown_error(caught.exception, attributes), expected)
                else:
                    self.assertEqual(repr(eval(query[4:], dict(names))), expected)


if __name__ == "__main__":
    unittest.main()
