"""How the functions are called: names of arguments, arguments that stay as they were, equal results."""

import copy
import importlib
import inspect

from tests.checks import ODD_VALUES, Case

P = ("seq", (("fork", ("seq", (("await", 1), ("log", "b")))), ("log", "a"), ("await", 1), ("log", "c")))
F = (1, (("a",), (None, "b")))
G = (0, (("c", None),))

CALLS = {
    "programs": {
        "is_program": {"value": P}, "node_count": {"program": P}, "depth": {"program": P}, "words_of": {"program": P},
        "renamed": {"program": P, "names": {"a": "b", "b": "c"}}, "places": {"program": P},
        "part_at": {"program": P, "place": (0, 0, 1)},
        "replaced": {"program": P, "place": (0, 0, 1), "other": ("seq", ())},
    },
    "rounds": {
        "finish": {"program": P}, "last_round": {"program": P}, "marked": {"program": P, "at": 1},
        "words_in": {"program": P, "at": 1},
    },
    "forms": {
        "is_form": {"value": F}, "form_of": {"program": P}, "program_of": {"form": F}, "then": {"one": F, "other": G},
        "forked": {"form": F}, "joined": {"forms": (F, G)}, "raced": {"forms": (F, G)},
        "repeated": {"form": F, "count": 2},
    },
}


class Calls(Case):
    def functions(self):
        for module, calls in CALLS.items():
            for name, named in calls.items():
                yield getattr(importlib.import_module(f"awaitrounds.{module}"), name), named

    def test_defined_in_their_files(self):
        for module, calls in CALLS.items():
            for name in calls:
                function = getattr(importlib.import_module(f"awaitrounds.{module}"), name)
                self.assertTrue(inspect.isfunction(function))
                self.assertEqual(function.__module__, f"awaitrounds.{module}")

    def test_names_and_positions(self):
        for function, named in self.functions():
            self.assertEqual(list(inspect.signature(function).parameters), list(named))
            result = function(*named.values())
            self.exact(function(**named), result)
            self.exact(function(**dict(reversed(named.items()))), result)

    def test_equal_calls_have_equal_results(self):
        for function, named in self.functions():
            result = function(**named)
            for _ in range(3):
                self.exact(function(**copy.deepcopy(named)), result)

    def test_arguments_stay_as_they_were(self):
        for function, named in self.functions():
            kept = copy.deepcopy(named)
            function(**named)
            self.exact(named, kept)

    def test_any_values_stay_as_they_were(self):
        for module, name in (("programs", "is_program"), ("forms", "is_form")):
            function = getattr(importlib.import_module(f"awaitrounds.{module}"), name)
            for value in ODD_VALUES:
                for whole in (value, ("seq", (value,)), (0, (value,)), [value], {"a": value}):
                    kept = copy.deepcopy(whole)
                    function(whole)
                    self.exact(whole, kept)

    def test_refused_places_stay_as_they_were(self):
        programs = importlib.import_module("awaitrounds.programs")
        for function, more in ((programs.part_at, ()), (programs.replaced, (P,))):
            for place in ([0, [1]], {"a": [0]}, (0, [0, 0])):
                kept = copy.deepcopy(place)
                with self.assertRaises(ValueError):
                    function(P, place, *more)
                self.exact(place, kept)
