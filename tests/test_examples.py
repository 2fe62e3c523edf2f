"""The examples of the document, as they stand there."""

import re
import unittest

from partnercall import calls, errors, pairings, sheets

# The text of the examples of points [4], [5] and [6].
EXAMPLES = """
>>> [is_pairing((1, 0, 3, 2)), is_pairing((1, 2, 0, 3))]
[True, False]
>>> [couples(q), pairing_of([(3, 1), (0, 2)])]
[[(0, 2), (1, 3)], (2, 3, 0, 1)]
>>> [pairings_many(6), pairing_at(4, 1), pairing_number((3, 2, 1, 0))]
[15, (2, 3, 0, 1), 2]
>>> pairing_at(4, 3)
raises NoNumber(number=3)
>>> called(p, (1, 2))
(3, 2, 1, 0)
>>> called(p, (1, 4))
raises NoPerson(person=4)
>>> called_all(p, [(1, 2), (0, 1)])
(1, 0, 3, 2)
>>> pairings_along(p, [(1, 2), (1, 2)])
[(1, 0, 3, 2), (3, 2, 1, 0), (3, 2, 1, 0)]
>>> idle_calls(p, [(1, 2), (1, 2)])
[1]
>>> [is_sheet((2, 3, 0, 1)), is_sheet((1, 0, 3)), is_sheet((1, 0))]
[True, False, False]
>>> [empty_sheet(2), sheet_of(4, [(0, 1)]), with_call(one, (1, 2))]
[(2, 3, 0, 1), (1, 0, 6, 7, 5, 4, 2, 3), (1, 0, 4, 7, 2, 6, 5, 3)]
>>> [upper_pairs(one), lower_pairs(with_call(one, (1, 2))), strands(with_call(one, (1, 2)))]
[[(0, 1)], [(1, 2)], [(2, 0), (3, 3)]]
>>> followed(one, sheet_of(4, [(1, 2)]))
(1, 0, 4, 7, 2, 6, 5, 3)
>>> [times(one, 10 ** 12), mirrored(with_call(one, (1, 2)))]
[(1, 0, 6, 7, 5, 4, 2, 3), (6, 2, 1, 7, 5, 4, 0, 3)]
"""


def names_for_examples():
    names = {}
    for module in (pairings, calls, sheets):
        names.update(vars(module))
    names["p"] = (1, 0, 3, 2)
    names["q"] = (2, 3, 0, 1)
    names["one"] = sheets.sheet_of(4, [(0, 1)])
    return names


def shown_error(error, attributes):
    """An error as the document shows it, with the attributes whose names are given."""
    inside = ", ".join(f"{name}={getattr(error, name)!r}" for name in attributes)
    return f"raises {error.__class__.__name__}" + (f"({inside})" if inside else "")


class Examples(unittest.TestCase):
    def test_examples(self):
        names = names_for_examples()
        lines = EXAMPLES.strip().split("\n")
        self.assertEqual(len(lines), 2 * 14)
        for query, expected in zip(lines[::2], lines[1::2]):
            with self.subTest(query):
                self.assertTrue(query.startswith(">>> "))
                if expected.startswith("raises "):
                    raised = re.match(r"raises (\w+)", expected).group(1)
                    with self.assertRaises(getattr(errors, raised)) as caught:
                        eval(query[4:], dict(names))
                    attributes = re.findall(r"(\w+)=", expected)
                    self.assertEqual(shown_error(caught.exception, attributes), expected)
                else:
                    self.assertEqual(repr(eval(query[4:], dict(names))), expected)


if __name__ == "__main__":
    unittest.main()
