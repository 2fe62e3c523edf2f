"""The error classes: what they are subclasses of, and what they keep."""

import unittest

from partnercall import errors

KINDS = [
    ("NoPerson", LookupError, ["person"]),
    ("NoNumber", LookupError, ["number"]),
    ("NoDeed", LookupError, ["many"]),
    ("OtherSize", ValueError, ["size"]),
    ("NotResult", ValueError, ["pair"]),
    ("NotShortest", ValueError, []),
    ("NoWord", ValueError, []),
    ("BadDeed", ValueError, ["at"]),
    ("BadText", ValueError, ["at"]),
    ("BadLine", ValueError, ["at"]),
    ("NotSettled", RuntimeError, ["many"]),
    ("Last", RuntimeError, []),
    ("TooMany", OverflowError, ["size"]),
]


def example_values(attribute):
    if attribute == "pair":
        return [(0, 1), (3, 12)]
    return [0, 1, -1, 20, 10 ** 40]


class Errors(unittest.TestCase):
    def test_direct_subclasses(self):
        for name, base, attributes in KINDS:
            with self.subTest(name):
                self.assertEqual(getattr(errors, name).__bases__, (base,))

    def test_no_other_error_class(self):
        own = [name for name, worth in vars(errors).items() if isinstance(worth, type)]
        self.assertEqual(sorted(own), sorted(name for name, base, attributes in KINDS))

    def test_attributes_by_position_and_by_name(self):
        for name, base, attributes in KINDS:
            kind = getattr(errors, name)
            for attribute in attributes:
                for worth in example_values(attribute):
                    with self.subTest(name, worth=worth):
                        self.assertEqual(getattr(kind(worth), attribute), worth)
                        self.assertEqual(getattr(kind(**{attribute: worth}), attribute), worth)

    def test_no_values(self):
        for name, base, attributes in KINDS:
            kind = getattr(errors, name)
            if attributes:
                with self.assertRaises(TypeError):
                    kind()
            else:
                self.assertIsInstance(kind(), base)
                with self.assertRaises(TypeError):
                    kind(1)

    def test_raised_and_caught_by_base(self):
        for name, base, attributes in KINDS:
            values = [example_values(attribute)[0] for attribute in attributes]
            with self.assertRaises(base) as caught:
                raise getattr(errors, name)(*values)
            self.assertNotEqual(str(caught.exception), "")

    def test_great_integers(self):
        for name, base, attributes in KINDS:
            for integer in (10 ** 5000, -10 ** 5000, 10 ** 4300, -10 ** 4299):
                for attribute in attributes:
                    worth = (0, integer) if attribute == "pair" else integer
                    with self.subTest(name, digits=integer.bit_length()):
                        error = getattr(errors, name)(worth)
                        self.assertTrue(getattr(error, attribute) == worth)
                        # Whoever shows the error must be able to.
                        self.assertNotEqual(str(error), "")
                        self.assertNotEqual(repr(error), "")

    def test_pair_is_copied(self):
        pair = [0, 1]
        error = errors.NotResult(pair)
        pair[0] = 5
        self.assertEqual(error.pair, (0, 1))


if __name__ == "__main__":
    unittest.main()
