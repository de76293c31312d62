"""The interface: what it lists stands in its file, with its arguments, and methods in their own classes."""

import inspect
import unittest

from textorlist import baskets, comparing, conducts, entries, judging, looker, mends, programs, runs, shapes, twins, values

FUNCTIONS = {
    values: {
        "check_value": "(thing)", "is_value": "(thing)", "kind_of": "(value)", "size_of": "(value)", "depth_of": "(value)",
        "items_of": "(value)", "places_of": "(value)", "part_of": "(value, place)", "is_torn": "(value, place)",
        "wrapped": "(value, place)",
    },
    runs: {
        "run": "(program, value, *, key='', name=None)", "trace": "(program, value, *, key='', name=None)",
        "first_parting": "(program, one, other, *, key='', name=None)",
    },
    baskets: {"perform": "(program, value, *, key='', **uses)", "filled": "(basket, step)"},
    conducts: {
        "table": "(program, shape, *, bad=('slip', 'endless'), key='')",
        "table_of_pairs": "(one, other, shape, *, key='', excused=False)",
        "same_conduct": "(program, shape, one, other, *, bad=('slip', 'endless'), key='')",
        "same_pair_conduct": "(one, other, shape, pair, beside, *, key='', excused=False)",
    },
    looker: {
        "is_table": "(thing, program, shape, *, bad=('slip', 'endless'), key='')",
        "is_table_of_pairs": "(thing, one, other, shape, *, key='', excused=False)",
    },
    judging: {
        "judge": "(program, shape, *, bad=('slip', 'endless'), key='')", "survey": "(program, shape, *, key='')",
        "survey_page": "(found)", "bears": "(program, shape, *, bad=('slip', 'endless'), key='', name=None)",
        "greatest": "(program, shapes, *, bad=('slip', 'endless'), key='', name=None)",
    },
    comparing: {"compare": "(one, other, shape, *, key='', excused=False)"},
    mends: {"least_mends": "(program, shape, *, key='')"},
}
CLASSES = {
    (entries, "Entries"): {
        "of": "(*values)", "set_entry": "(self, at, value)", "listed": "(self)", "packed": "(self)", "joined": "(self, between)",
        "flat": "(self)", "__init__": "(self, value)",
    },
    (shapes, "Shape"): {
        "every": "()", "never": "()", "nothing": "()", "texts": "(least=0, most=None)", "lists": "(shape)", "nested": "(shape)",
        "least": "(self)", "least_beyond": "(self, other)", "within": "(self, other)",
    },
    (programs, "Program"): {
        "__init__": "(self, text)", "names": "(self)", "takers": "(self)", "spots": "(self)", "marked": "(self, mend)",
    },
    (runs, "Run"): {"entries": "(self, taker)", "meets": "(self, bad)"},
    (baskets, "Basket"): {
        "__init__": "(self, *names)", "fill": "(self, program, value, *, key='')", "entries": "(self, name)", "names": "(self)",
    },
    (baskets, "Trial"): {"__init__": "(self, basket)"},
    (twins, "Twins"): {"__init__": "(self, program, *, key='', name=None)", "counted": "(self, text)"},
}
OPERATORS = {
    (entries, "Entries"): "add radd iadd mul rmul len bool contains getitem setitem iter eq repr",
    (shapes, "Shape"): "or and sub invert ior iand contains eq bool",
    (programs, "Program"): "len str eq",
    (runs, "Run"): "bool",
    (baskets, "Basket"): "len",
    (baskets, "Trial"): "enter exit",
    (judging, "Verdict"): "bool len",
    (twins, "Twins"): "bool",
    (comparing, "Comparison"): "bool",
    (mends, "Mends"): "bool",
}


class Interface(unittest.TestCase):
    def test_functions(self):
        for module, functions in FUNCTIONS.items():
            for name, arguments in functions.items():
                function = getattr(module, name)
                self.assertEqual(function.__module__, module.__name__)
                self.assertEqual(str(inspect.signature(function)), arguments, name)

    def test_methods(self):
        for (module, name), methods in CLASSES.items():
            owner = getattr(module, name)
            self.assertEqual(owner.__module__, module.__name__)
            for method, arguments in methods.items():
                self.assertIn(method, vars(owner))
                self.assertEqual(str(inspect.signature(getattr(owner, method))), arguments, method)

    def test_operators(self):
        for (module, name), operators in OPERATORS.items():
            for operator in operators.split():
                self.assertIn(f"__{operator}__", vars(getattr(module, name)))

    def test_attributes(self):
        program = programs.Program("def f(v):\n  return")
        self.assertEqual(program.main, "f")
        given = runs.run(program, None)
        self.assertEqual((given.way, given.line, given.fates, given.handed), ("end", None, [], []))
        every = shapes.Shape.every()
        verdict = judging.judge(program, every)
        self.assertEqual((type(verdict.table), verdict.met), (tuple, None))
        told = comparing.compare(program, program, every)
        self.assertEqual((type(told.table), told.apart), (tuple, None))
        self.assertEqual(twins.Twins(program).parting, ())
        found = mends.least_mends(program, every)
        self.assertEqual((found.sets, found.bad), ([()], {}))

    def test_classes_of_what_is_returned(self):
        for module, name in [(judging, "Verdict"), (comparing, "Comparison"), (mends, "Mends"), (twins, "Twins"), (runs, "Run")]:
            self.assertEqual(getattr(module, name).__module__, module.__name__)

    def test_generators(self):
        self.assertTrue(inspect.isgeneratorfunction(runs.trace))
        self.assertTrue(inspect.isgeneratorfunction(entries.Entries.flat))


if __name__ == "__main__":
    unittest.main()
