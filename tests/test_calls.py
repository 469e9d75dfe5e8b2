"""How the functions are called: names of arguments, arguments that stay as they were, equal results."""

import copy
import importlib
import inspect

from awaitrounds.errors import BadWish, RoundError
from tests.checks import ODD_VALUES, Case

P = ("seq", (("fork", ("seq", (("await", 1), ("log", "b")))), ("log", "a"), ("await", 1), ("log", "c")))
Q = ("seq", (("log", "a"), ("await", 1), ("log", "b")))
F = (1, (("a",), (None, "b")))
G = (0, (("c", None),))
PLAN = ((0, 1, 0, 2), (3, 0, 0))
WISH = ((1, 2, 0), (0, 3, 0))
ORDER = ((1, 0, 0), (0, 1, 0), (0, 0, 0), (1, 2, 0), (0, 3, 0))

CALLS = {
    "programs": {
        "is_program": {"value": P}, "node_count": {"program": P}, "depth": {"program": P}, "words_of": {"program": P},
        "renamed": {"program": P, "names": {"a": "b", "b": "c"}}, "places": {"program": P},
        "part_at": {"program": P, "place": (0, 0, 1)},
        "replaced": {"program": P, "place": (0, 0, 1), "other": ("seq", ())},
    },
    "rounds": {
        "finish": {"program": P}, "last_round": {"program": P}, "marked": {"program": P, "at": 1},
        "words_in": {"program": P, "at": 1},
    },
    "forms": {
        "is_form": {"value": F}, "form_of": {"program": P}, "program_of": {"form": F}, "then": {"one": F, "other": G},
        "forked": {"form": F}, "joined": {"forms": (F, G)}, "raced": {"forms": (F, G)},
        "repeated": {"form": F, "count": 2},
    },
    "counts": {
        "total": {"program": P}, "count_before": {"program": P, "at": 1}, "entry": {"program": P, "number": 2},
        "entries": {"program": P, "start": 1, "stop": 3},
    },
    "company": {
        "is_company": {"value": (P, Q)}, "company_total": {"company": (P, Q)},
        "company_entry": {"company": (P, Q), "number": 2}, "company_entries": {"company": (P, Q), "start": 1, "stop": 4},
        "company_number": {"company": (P, Q), "program": 1, "own": 1}, "as_program": {"company": (P, Q)},
    },
    "equality": {
        "same": {"one": P, "other": Q}, "first_difference": {"one": P, "other": Q}, "changes": {"program": P},
        "test_entry": {"program": P, "test": (0, 1), "number": 3}, "teller": {"one": P, "other": Q},
        "shows_teller": {"one": P, "other": Q, "value": ((0, 1), 3)},
    },
    "wishes": {
        "steps_of": {"program": P}, "planned": {"company": (P, Q), "plan": PLAN},
        "event_round": {"company": (P, Q), "plan": PLAN, "event": (1, 2, 0)},
        "is_ahead": {"company": (P, Q), "plan": PLAN, "earlier": (1, 2, 0), "later": (0, 3, 0)},
        "lag": {"company": (P, Q), "wish": WISH}, "fewest_awaits": {"company": (P, Q), "wishes": (WISH,)},
        "contradiction": {"company": (P, Q), "wishes": (WISH, WISH[::-1])},
        "shows_contradiction": {"company": (P, Q), "wishes": (WISH, WISH[::-1]), "value": (0, 1)},
    },
    "explain": {
        "events_of": {"company": (P, Q)}, "observed": {"company": (P, Q), "plan": PLAN},
        "explained": {"company": (P, Q), "observation": ORDER},
    },
    "texts": {
        "show_program": {"program": P}, "show_company": {"company": (P, Q)},
        "read_program": {"text": "seq(log a; await 1)"}, "read_company": {"text": "log a\nawait 1"},
    },
}

# The methods of the classes, with the object that they are called on.
METHODS = {
    "call_next": {}, "run": {"limit": 2}, "add": {"program": P}, "undo": {}, "waiting": {}, "calls": {}, "log": {},
    "finished": {}, "programs": {}, "trial": {"look": len}, "copy": {},
}

# For each argument that is any value, a call that takes it in its place.
ANY_VALUES = (
    ("programs", "is_program", "value"), ("programs", "part_at", "place"), ("programs", "replaced", "place"),
    ("forms", "is_form", "value"), ("counts", "entry", "number"), ("company", "is_company", "value"),
    ("company", "company_entry", "number"), ("company", "company_number", "program"),
    ("company", "company_number", "own"), ("equality", "shows_teller", "value"), ("wishes", "planned", "plan"),
    ("wishes", "event_round", "event"), ("wishes", "is_ahead", "earlier"), ("wishes", "is_ahead", "later"),
    ("wishes", "lag", "wish"), ("wishes", "shows_contradiction", "value"), ("explain", "observed", "plan"),
    ("explain", "explained", "observation"), ("texts", "read_program", "text"), ("texts", "read_company", "text"),
)


class Calls(Case):
    def functions(self):
        for module, calls in CALLS.items():
            for name, named in calls.items():
                yield getattr(importlib.import_module(f"awaitrounds.{module}"), name), named

    def test_defined_in_their_files(self):
        for module, calls in CALLS.items():
            for name in calls:
                function = getattr(importlib.import_module(f"awaitrounds.{module}"), name)
                self.assertTrue(inspect.isfunction(function))
                self.assertEqual(function.__module__, f"awaitrounds.{module}")

    def test_names_and_positions(self):
        for function, named in self.functions():
            self.assertEqual(list(inspect.signature(function).parameters), list(named))
            result = function(*named.values())
            self.exact(function(**named), result)
            self.exact(function(**dict(reversed(named.items()))), result)

    def test_methods(self):
        queues, desks = (importlib.import_module(f"awaitrounds.{name}") for name in ("queues", "desk"))
        self.assertEqual([queues.Queue.__module__, desks.Desk.__module__], ["awaitrounds.queues", "awaitrounds.desk"])
        self.assertEqual(list(inspect.signature(queues.Queue).parameters), ["company"])
        self.assertEqual(list(inspect.signature(desks.Desk).parameters), [])
        self.assertEqual(list(inspect.signature(desks.Desk.say).parameters), ["self", "line"])
        for name, named in METHODS.items():
            self.assertEqual(list(inspect.signature(vars(queues.Queue)[name]).parameters), ["self", *named])
            results = []
            for position in (True, False):
                queue = queues.Queue((P, Q)) if position else queues.Queue(company=(P, Q))
                queue.run(1)
                kept = copy.deepcopy(named)
                results.append(getattr(queue, name)(*(named.values() if position else ()), **({} if position else named)))
                self.exact(named, kept)
            self.assertEqual(results[0], results[1])

    def test_any_values_for_methods_stay_as_they_were(self):
        queues, desks = (importlib.import_module(f"awaitrounds.{name}") for name in ("queues", "desk"))
        for value in ODD_VALUES:
            for whole in (value, ("seq", (value,)), [value], {"a": value}, (value, P)):
                kept = copy.deepcopy(whole)
                for call in (queues.Queue, queues.Queue((P,)).add, desks.Desk().say):
                    try:
                        call(whole)
                    except RoundError:
                        pass
                    self.exact(whole, kept)

    def test_equal_calls_have_equal_results(self):
        for function, named in self.functions():
            result = function(**named)
            for _ in range(3):
                self.exact(function(**copy.deepcopy(named)), result)

    def test_arguments_stay_as_they_were(self):
        for function, named in self.functions():
            kept = copy.deepcopy(named)
            function(**named)
            self.exact(named, kept)

    def test_any_values_stay_as_they_were(self):
        for module, name, argument in ANY_VALUES:
            function = getattr(importlib.import_module(f"awaitrounds.{module}"), name)
            for value in ODD_VALUES:
                for whole in (value, ("seq", (value,)), (0, (value,)), [value], {"a": value}, (value, value)):
                    named = {**CALLS[module][name], argument: whole}
                    kept = copy.deepcopy(named)
                    try:
                        function(**named)
                    except RoundError:
                        pass
                    self.exact(named, kept)

    def test_wishes_of_any_values_stay_as_they_were(self):
        wishes = importlib.import_module("awaitrounds.wishes")
        for value in ODD_VALUES:
            named = {"company": (P, Q), "wishes": (WISH, value, [WISH])}
            for function, more in ((wishes.fewest_awaits, {}), (wishes.contradiction, {}),
                                   (wishes.shows_contradiction, {"value": [value]})):
                kept = copy.deepcopy([named, more])
                self.raises(BadWish, {"wish": value}, function, **named, **more)
                self.exact([named, more], kept)

    def test_refused_places_stay_as_they_were(self):
        programs = importlib.import_module("awaitrounds.programs")
        for function, more in ((programs.part_at, ()), (programs.replaced, (P,))):
            for place in ([0, [1]], {"a": [0]}, (0, [0, 0])):
                kept = copy.deepcopy(place)
                with self.assertRaises(ValueError):
                    function(P, place, *more)
                self.exact(place, kept)
