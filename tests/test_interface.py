"""The interface: each name stands in its file, and each method in its class."""

import importlib
import inspect
import unittest

FUNCTIONS = {
    "bases": "is_bases weights count_of first_fall bases_for turned_versions",
    "numerals": "carry numerals_from",
    "runs": "play attempts",
    "patterns": "is_pattern patterns how_many pattern_of all_in first_beyond",
    "weavings": "weaving_of weavings_of",
    "derived": "shown",
    "judge": "why broken_by judge kept",
    "lookers": "shows_row shows_holds shows_breaks shows_least shows",
    "orders": "gaps sure alike rewritten reread moved right_writings right_readings mend is_free",
    "fewest": "torn shows_torn full_plan first_reading fewest_looks shows_fewest",
    "handed": "handed later passed_on never_back",
    "texts": "show_plan read_plan show_promise read_promise show_run read_run table",
}
CLASSES = {
    ("numerals", "Numeral"): "__init__ is_numeral of read changed first_change __eq__ __lt__ __le__ __gt__ __ge__ __add__ "
                             "__radd__ __sub__ __rsub__ __mul__ __rmul__ __pow__ __floordiv__ __mod__ __lshift__ __rshift__ "
                             "__xor__ __neg__ __invert__ __bool__ __len__ __getitem__ __iter__ __contains__ __str__",
    ("schemes", "Scheme"): "__init__ kind_of places_of cells_of renamed __len__ __contains__ __eq__",
    ("plans", "Order"): "position",
    ("plans", "Plan"): "__init__ position place_at is_reading is_promise mirror turned __eq__ __len__ layout",
    ("boards", "Board"): "__init__ content version whole coming __getitem__ digits_of begin step finish row held during",
    ("boards", "Row"): "__getitem__ __iadd__ __len__ numeral",
    ("runs", "Played"): "answer tells breaks __eq__",
    ("readers", "Reader"): "__init__ __call__ left so_far sights passed answer restart attempt tried",
    ("weavings", "Weaving"): "__init__ ages events __getitem__ __len__ __eq__ __add__ __radd__ earliest latest of",
    ("forced", "Forced"): "__init__ at_most same classes blocks clash is_barred __bool__ freest steps",
    ("judge", "Holds"): "__init__ __bool__ length",
    ("judge", "Breaks"): "__init__ __bool__ length",
    ("fewest", "Torn"): "__init__ __eq__",
    ("fewest", "Fewest"): "__init__ __eq__",
    ("marks", "Marks"): "__init__ limit example digit __call__",
    ("desk", "Desk"): "__init__ say say_all",
}
NAMES = {
    "judge": {"why": "plan pattern promise", "broken_by": "plan pattern promise", "judge": "plan promise",
              "kept": "plan reading"},
    "lookers": {"shows_row": "plan promise pattern why", "shows_holds": "plan promise rows",
                "shows_breaks": "plan promise run", "shows_least": "plan promise run rows", "shows": "verdict"},
    "orders": {"gaps": "plan", "sure": "plan", "alike": "plan other", "rewritten": "plan order", "reread": "plan order",
               "moved": "promise order", "right_writings": "plan promise", "right_readings": "plan promise",
               "mend": "plan promise", "is_free": "plan k"},
    "fewest": {"torn": "scheme name", "shows_torn": "scheme name thing", "full_plan": "scheme looks",
               "first_reading": "plan name", "fewest_looks": "scheme name aim most",
               "shows_fewest": "scheme name aim most thing", "Torn": "versions moment digits",
               "Fewest": "looks table broken"},
    "marks": {"Marks": "plan name modulus"},
    "handed": {"handed": "first second", "later": "first reading", "passed_on": "first reading second other",
               "never_back": "plan reading"},
    "texts": {"show_plan": "plan", "read_plan": "text", "show_promise": "promise", "read_promise": "text",
              "show_run": "run", "read_run": "text", "table": "rows"},
    "desk": {"Desk": ""},
}


def module_of(name):
    """The module of the package with this name."""
    return importlib.import_module("risingread." + name)


class TestInterface(unittest.TestCase):

    def test_functions_stand_in_their_files(self):
        for name, words in FUNCTIONS.items():
            for word in words.split():
                function = getattr(module_of(name), word)
                self.assertTrue(inspect.isfunction(function), word)
                self.assertEqual(function.__module__, "risingread." + name)

    def test_methods_stand_in_their_classes(self):
        for (name, word), methods in CLASSES.items():
            known = getattr(module_of(name), word)
            self.assertTrue(inspect.isclass(known), word)
            self.assertEqual(known.__module__, "risingread." + name)
            for method in methods.split():
                self.assertIn(method, vars(known), (word, method))

    def test_names_of_arguments(self):
        for name, words in NAMES.items():
            for word, arguments in words.items():
                self.assertEqual(list(inspect.signature(getattr(module_of(name), word)).parameters), arguments.split(), word)

    def test_verdicts(self):
        judge = module_of("judge")
        self.assertEqual(judge.Verdict.__module__, "risingread.judge")
        self.assertEqual([judge.Holds.__bases__, judge.Breaks.__bases__], [(judge.Verdict,), (judge.Verdict,)])
        for known in (judge.Holds, judge.Breaks):
            self.assertIsInstance(vars(known)["length"], property)
        self.assertEqual(list(inspect.signature(judge.Holds).parameters), ["plan", "promise", "rows"])
        self.assertEqual(list(inspect.signature(judge.Breaks).parameters), ["plan", "promise", "pattern", "run"])


if __name__ == "__main__":
    unittest.main()
