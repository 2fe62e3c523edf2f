"""The interface: every function exists in its module, with the parameters that the document writes."""

import importlib
import inspect
import unittest

FUNCTIONS = """
pairings is_pairing(value) couples(pairing) pairing_of(couples) pairings_many(size) pairing_at(size,number)
pairings pairing_number(pairing)
calls called(pairing,call) called_all(pairing,word) pairings_along(pairing,word) idle_calls(pairing,word)
sheets is_sheet(value) empty_sheet(size) sheet_of(size,word) with_call(sheet,call) upper_pairs(sheet)
sheets lower_pairs(sheet) strands(sheet) followed(one,other) times(sheet,many) mirrored(sheet)
reading result(sheet,pairing) path(sheet,pairing,person) shows_path(sheet,pairing,person,value)
reading couples_on(sheet,pairing,person)
results results_many(sheet) result_at(sheet,number) result_bar(sheet,pairing) result_number(sheet,pairing)
results beginnings_many(sheet,pairing) beginning_at(sheet,pairing,number) beginning_number(sheet,beginning)
same do_same(one,other) parting(one,other) shows_parting(one,other,value)
settling is_settled(sheet) settled_pairing(sheet) sure_couples(sheet) partners_of(sheet,person)
settling fewest_to_settle(sheet) word_to_settle(sheet) settle_word(pairing)
between cycles(one,other) distance(one,other) words_many(one,other) word_at(one,other,number)
between word_number(one,other,word) leads(one,other,value)
fewest loops(sheet) pure_loops(sheet) fewest_calls(sheet) word_for(sheet) fewest_same(sheet) word_same(sheet)
repeats repeated(pairing,word,many) settles(pairing,word) sheet_settles(size,word)
repeats first_time(pairing,word,person,partner)
small all_sheets(size) first_word(sheet) words_with(sheet,many)
people renumbered(pairing,numbers) word_renumbered(word,numbers) sheet_renumbered(sheet,numbers) joined(one,other)
people sheets_joined(one,other) without(pairing,person)
texts pairing_text(pairing) word_text(word) pairing_in(text) word_in(text)
desk answers(text)
"""


def listed_functions():
    """All functions, as (module, name, parameters)."""
    for row in FUNCTIONS.strip().split("\n"):
        module, *signatures = row.split(" ")
        for signature in signatures:
            name, parameters = signature.rstrip(")").split("(")
            yield module, name, parameters.split(",")


class Interface(unittest.TestCase):
    def test_functions(self):
        self.assertEqual(len(list(listed_functions())), 71)
        for module, name, parameters in listed_functions():
            with self.subTest(name):
                function = vars(importlib.import_module(f"partnercall.{module}"))[name]
                self.assertEqual(function.__module__, f"partnercall.{module}")
                found = inspect.signature(function).parameters
                self.assertEqual(list(found), parameters)
                for parameter in found.values():
                    self.assertIs(parameter.kind, inspect.Parameter.POSITIONAL_OR_KEYWORD)
                    self.assertIs(parameter.default, inspect.Parameter.empty)


if __name__ == "__main__":
    unittest.main()
