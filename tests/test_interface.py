"""The opening paragraphs of the interface: every name and parameter as it is written."""

import importlib
import inspect
import unittest

# For each module its functions and classes, and for each class its methods, with parameters.
FUNCTIONS = {
    "ladders": {
        "reach": "(length, foot=0)",
        "farthest_foot": "(length, height)",
        "joined_length": "(*lengths)",
    },
    "trials": {
        "misread_numbers": "(trials, heights)",
        "pinned": "(place, height)",
    },
    "misread": {
        "fewest_misread": "(site, trials, *, sure=())",
        "find_blames": "(site, trials, *, sure=())",
        "find_suspects": "(site, trials, *, sure=())",
        "best_shape": "(site, trials, *, sure=())",
        "trust": "(site, trials, number, *, misreads=0)",
    },
    "heights": {
        "stretches": "(site, trials, place, *, misreads=0, sure=())",
        "within": "(site, trials, place, height, *, misreads=0)",
        "sure_foot": "(site, trials, place, length, *, misreads=0)",
        "never_foot": "(site, trials, place, length, *, misreads=0)",
        "shortest_sure": "(site, trials, place, rack, *, foot=0, misreads=0, most=1)",
    },
    "listing": {
        "next_shape": "(site, trials, heights=None, *, misreads=0)",
        "fitting": "(site, trials, *, misreads=0, most=20)",
    },
    "papers": {
        "chain_sum": "(site, chain)",
        "check_shape": "(site, trials, heights, *, misreads=0, sure=())",
        "check_blames": "(site, trials, blames, *, sure=())",
        "height_paper": "(site, trials, place, height, *, misreads=0)",
        "check_height": "(site, trials, place, height, paper, *, misreads=0)",
        "check_plan": "(site, trials, wish, menu, plan, *, misreads=0)",
        "check_stall": "(site, trials, wish, menu, book, *, misreads=0)",
        "check_twins": "(site, trials, wish, menu, twins, *, misreads=0)",
    },
    "notation": {
        "write_site": "(site)",
        "write_trials": "(trials)",
        "read_site": "(text)",
        "read_trials": "(text)",
    },
}

CLASSES = {
    "errors": {
        "LadderError": {},
        "BadNumber": {"__init__": "(self, value)"},
        "BadName": {"__init__": "(self, name)"},
        "TakenName": {"__init__": "(self, name)"},
        "UnknownName": {"__init__": "(self, name)"},
        "NoPlace": {"__init__": "(self, place)"},
        "TooMany": {"__init__": "(self, count)"},
        "NoSite": {"__init__": "(self, ring)"},
        "NoShape": {"__init__": "(self, blames)"},
        "OtherSite": {},
        "BadState": {"__init__": "(self, state)"},
        "BadLine": {"__init__": "(self, line)"},
        "NothingToUndo": {},
        "NothingToRedo": {},
        "DeedFailed": {"__init__": "(self, row)"},
    },
    "ladders": {
        "Ladder": {
            "__init__": "(self, length, parts=1)",
            "__add__": "(self, other)",
            "__eq__": "(self, other)",
            "__lt__": "(self, other)",
            "__repr__": "(self)",
            "__call__": "(self, foot=0)",
        },
        "Rack": {
            "__init__": "(self, **lengths)",
            "put": "(self, name, length)",
            "names": "(self)",
            "length_of": "(self, name)",
            "joined": "(self, *names)",
            "lengths": "(self, most=1)",
            "names_for": "(self, length, most=1)",
            "__len__": "(self)",
            "__contains__": "(self, name)",
        },
    },
    "sites": {
        "Site": {
            "__init__": "(self, walls, links=())",
            "plain": "(count, top, slope)",
            "walls": "(self)",
            "links": "(self)",
            "names": "(self)",
            "place_of": "(self, name, index)",
            "spot_of": "(self, place)",
            "top_of": "(self, place)",
            "told": "(self, first, second)",
            "limit": "(self, first, second)",
            "chain": "(self, first, second)",
            "fits": "(self, heights)",
        },
    },
    "trials": {
        "Trial": {
            "__init__": "(self, place, height, reached)",
            "leant": "(place, ladder, foot, reached)",
            "agrees": "(self, heights)",
            "__invert__": "(self)",
            "__eq__": "(self, other)",
            "__str__": "(self)",
        },
    },
    "bounds": {
        "Bounds": {
            "__init__": "(self, site, trials=())",
            "lows": "(self)",
            "highs": "(self)",
            "as_trials": "(self)",
            "high_paper": "(self, place)",
            "low_paper": "(self, place)",
            "__getitem__": "(self, place)",
            "__len__": "(self)",
            "__contains__": "(self, heights)",
            "__and__": "(self, other)",
            "__or__": "(self, other)",
            "__le__": "(self, other)",
            "__eq__": "(self, other)",
        },
    },
    "wishes": {
        "Wish": {
            "__init__": "(self, size=1)",
            "cases": "(self)",
            "answer": "(self, heights)",
            "places": "(self)",
            "possible": "(self, site, trials, *, misreads=0)",
            "settled": "(self, site, trials, *, misreads=0)",
            "witness": "(self, site, trials, answer, *, misreads=0)",
            "__and__": "(self, other)",
        },
        "AllWithin": {"__init__": "(self, *pairs)", "cases": "(self)", "places": "(self)"},
        "SomeWithin": {"__init__": "(self, *pairs)", "cases": "(self)", "places": "(self)"},
        "Band": {"__init__": "(self, place, *cuts)", "cases": "(self)", "places": "(self)"},
        "Both": {"__init__": "(self, first, second)", "cases": "(self)", "places": "(self)"},
    },
    "plans": {
        "Planner": {
            "__init__": "(self, site, trials, wish, menu, *, misreads=0)",
            "start": "(self)",
            "after": "(self, state, number, reached)",
            "trials_of": "(self, state)",
            "answers": "(self, state=None)",
            "fewest": "(self, state=None)",
            "best": "(self, state=None)",
            "plan": "(self, state=None)",
            "stall": "(self)",
            "twins": "(self)",
        },
    },
    "crew": {
        "Crew": {
            "__init__": "(self, site, **lengths)",
            "replayed": "(site, rows, **lengths)",
            "put_ladder": "(self, name, length)",
            "put_mark": "(self, name, place)",
            "record": "(self, mark, reached, *names, foot=0)",
            "forget": "(self, number)",
            "change": "(self, name, value)",
            "do": "(self, row)",
            "run": "(self, rows)",
            "undo": "(self)",
            "redo": "(self)",
            "steps": "(self)",
            "history": "(self)",
            "marks": "(self)",
            "ladders": "(self)",
            "reaches": "(self, mark, *names, foot=0)",
            "stretches_of": "(self, mark)",
            "advise": "(self, wish, menu)",
            "__getitem__": "(self, name)",
            "__setitem__": "(self, name, place)",
            "__contains__": "(self, name)",
            "__len__": "(self)",
        },
    },
}

PROPERTIES = {"misreads": True, "recorded": False, "needed": False}


def module_of(name):
    return importlib.import_module("rungbounds." + name)


class InterfaceTest(unittest.TestCase):
    def test_functions(self):
        for file, functions in FUNCTIONS.items():
            for name, signature in functions.items():
                with self.subTest(file=file, name=name):
                    function = getattr(module_of(file), name)
                    self.assertTrue(inspect.isfunction(function))
                    self.assertEqual(function.__module__, "rungbounds." + file)
                    self.assertEqual(str(inspect.signature(function)), signature)

    def test_classes(self):
        for file, classes in CLASSES.items():
            for name, methods in classes.items():
                kind = getattr(module_of(file), name)
                self.assertTrue(inspect.isclass(kind))
                self.assertEqual(kind.__module__, "rungbounds." + file)
                for method, signature in methods.items():
                    with self.subTest(file=file, name=name, method=method):
                        self.assertIn(method, vars(kind))
                        self.assertEqual(str(inspect.signature(getattr(kind, method))), signature)

    def test_class_methods(self):
        self.assertIsInstance(vars(module_of("sites").Site)["plain"], classmethod)
        self.assertIsInstance(vars(module_of("trials").Trial)["leant"], classmethod)
        self.assertIsInstance(vars(module_of("crew").Crew)["replayed"], classmethod)

    def test_properties(self):
        for name, can_be_assigned in PROPERTIES.items():
            found = vars(module_of("crew").Crew)[name]
            self.assertIsInstance(found, property)
            self.assertEqual(found.fset is not None, can_be_assigned)

    def test_base_classes(self):
        wishes = module_of("wishes")
        for name in ("AllWithin", "SomeWithin", "Band", "Both"):
            self.assertTrue(issubclass(getattr(wishes, name), wishes.Wish))


if __name__ == "__main__":
    unittest.main()
