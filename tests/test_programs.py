"""Programs: what is one, and their parts."""

import copy
import random

from awaitrounds.errors import BadProgram, NoPlace
from awaitrounds.programs import depth, is_program, node_count, part_at, places, renamed, replaced, words_of
from tests.checks import ODD_VALUES, Case, nested
from tests.drawing import drawn_programs

P = ("seq", (("fork", ("seq", (("await", 1), ("log", "b")))), ("log", "a"), ("await", 1), ("log", "c")))
ONE, LOG = ("await", 1), ("log", "a")
LOOP = ("loop", 2, ONE)


def seq(*parts):
    return ("seq", parts)


def logs(many):
    """A program with so many logs, in seqs of up to 6."""
    return seq(*[seq(*[LOG] * min(6, many - at)) for at in range(0, many, 6)])


def forked(program):
    return ("fork", program)


class Nodes(Case):
    def test_each_kind(self):
        good = (
            LOG, ONE, seq(), seq(LOG), ("fork", LOG), ("join", (LOG,)), ("race", (LOG,)), LOOP, ("loop", 0, ONE),
            ("join", (LOG, ONE)), ("race", (ONE, LOG, seq())), P,
        )
        for program in good:
            self.exact(is_program(program), True)

    def test_values_of_every_kind(self):
        for value in (*ODD_VALUES, 0, 1, "a", "await", (), ((),)):
            self.exact(is_program(value), False)

    def test_as_parts(self):
        for value in (*ODD_VALUES, 0, 1, "a", "await", (), ((),)):
            for program in (("fork", value), seq(value), seq(LOG, value), ("join", (value,)), ("race", (ONE, value))):
                self.exact(is_program(program), False)
            self.exact(is_program(("loop", 1, value)), False)

    def test_lists_in_the_place_of_tuples(self):
        bad = (
            ["log", "a"], ["await", 1], ["seq", ()], ("seq", []), ("seq", [LOG]), ("join", [LOG]), ("race", [LOG]),
            ["fork", LOG], ("fork", list(LOG)), ["loop", 1, ONE], ("loop", 1, list(ONE)), ("seq", {}),
        )
        for value in bad:
            self.exact(is_program(value), False)

    def test_lengths_and_kinds(self):
        bad = (
            ("log",), ("log", "a", "a"), ("await",), ("await", 1, 1), ("seq",), ("seq", (), ()), ("seq", LOG, LOG),
            ("fork",), ("fork", LOG, LOG), ("fork", (LOG,)), ("fork", ()), ("join",), ("join", (), ()), ("join", LOG),
            ("race", (LOG,), (LOG,)), ("loop",), ("loop", 1), ("loop", ONE), ("loop", ONE, 1), ("loop", 1, (ONE,)),
            ("loop", 1, ONE, ONE), ("logs", "a"), ("Log", "a"), ("", "a"), (0, "a"), (None, LOG), (True, LOG),
            ("lo", "g"), (("log",), "a"), (["log"], "a"), ({}, LOG), ("seq", None), ("seq", "log"), ("seq", 0),
            ("Seq", (LOG,)), ("part", (LOG, ONE)), ("", ()), (None, (LOG,)), (0, (LOG,)),
            ("fork", (LOG, LOG)), (seq(), ()),
        )
        for value in bad:
            self.exact(is_program(value), False)

    def test_words(self):
        for word in ("a", "z", "az", "abcdefgh", "zzzzzzzz"):
            self.exact(is_program(("log", word)), True)
        bad = (
            "", "abcdefghi", "A", "aB", "a1", "a ", " a", "a_", "\u00e9", "a\u00df", "`", "{", "a\n", None, 1, True,
            ("a",), ["a"], {},
        )
        for word in bad:
            self.exact(is_program(("log", word)), False)

    def test_await_counts(self):
        for count in (1, 2, 10 ** 18 - 1, 10 ** 18):
            self.exact(is_program(("await", count)), True)
        for count in (0, -1, 10 ** 18 + 1, 10 ** 40, True, False, None, "1", (1,), [1], {}):
            self.exact(is_program(("await", count)), False)

    def test_loop_counts(self):
        for count in (0, 1, 2, 10 ** 18 - 1, 10 ** 18):
            self.exact(is_program(("loop", count, ONE)), True)
        for count in (-1, 10 ** 18 + 1, 10 ** 40, True, False, None, "1", (1,), [1], {}):
            self.exact(is_program(("loop", count, ONE)), False)


class Limits(Case):
    def test_parts(self):
        for many in (0, 1, 11, 12, 13, 14):
            self.exact(is_program(seq(*[LOG] * many)), many <= 12)
        for kind in ("join", "race"):
            for many in (0, 1, 5, 6, 7, 12):
                self.exact(is_program((kind, (LOG,) * many)), 1 <= many <= 6)

    def test_nodes(self):
        full = seq(*[seq(*[LOG] * 12) for _ in range(6)])
        self.exact([node_count(full), is_program(full)], [79, True])
        for more, wanted in (((LOG,), True), ((LOG, LOG), False), ((seq(LOG),), False), ((seq(),), True)):
            program = seq(*full[1], *more)
            self.exact([node_count(program) <= 80, is_program(program)], [wanted, wanted])

    def test_nodes_within_bodies_count(self):
        body = ("loop", 5, seq(ONE, *[LOG] * 11))
        for many, wanted in ((5, True), (6, False)):
            program = seq(*[body] * many, *[LOG] * (12 - many))
            self.exact([node_count(program) <= 80, is_program(program)], [wanted, wanted])
        program = seq(*[body] * 5, seq(*[LOG] * 6), LOG)
        self.exact([node_count(program), is_program(program)], [79, True])
        self.exact(is_program(seq(*[body] * 5, seq(*[LOG] * 7), LOG)), True)
        self.exact(is_program(seq(*[body] * 5, seq(*[LOG] * 8), LOG)), False)

    def test_depth(self):
        for wrap in (forked, seq, lambda core: ("join", (core,)), lambda core: ("race", (LOG, core))):
            for levels in (1, 2, 11, 12, 13, 14, 39):
                program = nested(wrap, levels - 1, LOG)
                self.exact(is_program(program), levels <= 12)

    def test_depth_within_bodies(self):
        body = nested(seq, 5, ONE)
        for levels, wanted in ((12, True), (13, False)):
            program = nested(forked, levels - 7, ("loop", 1, body))
            self.exact([depth(program), is_program(program)], [levels, wanted])

    def test_loops(self):
        for many in (1, 7, 8, 9, 12):
            self.exact(is_program(seq(*[LOOP] * many)), many <= 8)
        deep = seq(("fork", seq(*[LOOP] * 4)), ("join", (LOOP, LOOP)), ("race", (LOOP, LOOP)))
        self.exact([is_program(deep), is_program(seq(deep, LOOP))], [True, False])

    def test_loops_within_loops(self):
        for body in (LOOP, seq(ONE, LOOP), ("fork", LOOP), seq(ONE, ("fork", seq(ONE, ("loop", 0, ONE))))):
            self.exact(is_program(("loop", 1, body)), False)

    def test_a_value_that_shares_its_parts(self):
        self.exact(is_program(nested(lambda core: ("seq", (core,) * 12), 39, LOG)), False)
        self.exact(is_program(nested(lambda core: ("join", (core,) * 6), 39, LOG)), False)
        self.exact(is_program(nested(lambda core: ("seq", (core, core)), 7, LOG)), False)


class Bodies(Case):
    def good(self, body, wanted):
        for count in (0, 1, 10 ** 18):
            self.exact(is_program(("loop", count, body)), wanted)
        self.exact(is_program(body), True)

    def test_finish(self):
        for rounds in (1, 2, 5, 6, 7, 8, 10 ** 18):
            self.good(("await", rounds), rounds <= 6)
        for body in (seq(), LOG, ("fork", ("await", 3)), ("race", (("await", 3), LOG)), ("join", (LOG, seq()))):
            self.good(body, False)

    def test_finish_of_composed_bodies(self):
        self.good(seq(("await", 3), LOG, ("await", 3)), True)
        self.good(seq(("await", 3), LOG, ("await", 4)), False)
        self.good(("join", (("await", 1), ("await", 6))), True)
        self.good(("join", (("await", 1), ("await", 7))), False)
        self.good(("race", (("await", 10 ** 18), ("await", 6))), True)
        self.good(("race", (("await", 10 ** 18), ("await", 7))), False)

    def test_words(self):
        for many in (0, 1, 11, 12, 13):
            self.good(seq(ONE, logs(many)), many <= 12)
        self.good(seq(("fork", logs(6)), ("race", (ONE, logs(5), LOG)), ONE), True)
        self.good(seq(("fork", logs(6)), ("race", (ONE, logs(6), LOG)), ONE), False)
        self.good(seq(("fork", logs(6)), ("join", (ONE, logs(5), LOG)), ONE), True)
        self.good(seq(("fork", logs(6)), ("join", (ONE, logs(6), LOG)), ONE), False)

    def test_last_word(self):
        for at in (1, 29, 30, 31, 32, 10 ** 18):
            self.good(seq(("fork", seq(("await", at), LOG)), ONE), at <= 30)
            self.good(("race", (ONE, seq(("await", at), LOG, ("await", 10 ** 18)))), at <= 30)
        self.good(seq(("await", 5), ("fork", seq(("await", 25), LOG)), ONE), True)
        self.good(seq(("await", 5), ("fork", seq(("await", 26), LOG)), ONE), False)
        self.good(seq(("fork", ("await", 10 ** 18)), ONE), True)

    def test_one_bad_body_among_good_ones(self):
        good, bad = ("loop", 2, ONE), ("loop", 0, ("await", 7))
        for at in range(3):
            parts = [good, good, good]
            self.exact(is_program(("join", tuple(parts))), True)
            parts[at] = bad
            self.exact(is_program(("join", tuple(parts))), False)


class Drawn(Case):
    PROGRAMS = drawn_programs(501, 250, 1, 80)

    def test_are_programs(self):
        for program in self.PROGRAMS:
            self.exact(is_program(program), True)
            self.exact(is_program(copy.deepcopy(program)), True)

    def test_a_spoiled_part(self):
        source = random.Random(502)
        for program in self.PROGRAMS:
            place = source.choice(places(program))
            for value in source.sample(ODD_VALUES, 4):
                spoiled = with_value(program, place, value)
                self.exact(is_program(spoiled), False)

    def test_counts_follow_from_the_places(self):
        for program in self.PROGRAMS:
            parts = [part_at(program, place) for place in places(program)]
            self.exact(node_count(program), len(parts))
            self.exact(depth(program), 1 + max(len(place) for place in places(program)))
            self.exact(words_of(program), tuple(sorted({part[1] for part in parts if part[0] == "log"})))

    def test_places_are_in_order(self):
        for program in self.PROGRAMS:
            found = places(program)
            self.exact(found, tuple(sorted(set(found))))
            self.exact(found[0], ())

    def test_replaced_then_part_at(self):
        source = random.Random(503)
        for program in self.PROGRAMS:
            place, other = source.choice(places(program)), source.choice(self.PROGRAMS)
            wanted = with_value(program, place, other)
            if is_program(wanted):
                self.exact(replaced(program, place, other), wanted)
                self.exact(part_at(wanted, place), other)
            else:
                self.raises(BadProgram, {"value": wanted}, replaced, program, place, other)

    def test_replaced_by_itself(self):
        for program in self.PROGRAMS[:60]:
            for place in places(program):
                self.exact(replaced(program, place, part_at(program, place)), program)


def with_value(program, place, value):
    """A program with any value at a place, made in another way than in the package."""
    if not place:
        return value
    items = list(program)
    at = 2 if program[0] == "loop" else 1
    if program[0] in ("fork", "loop"):
        items[at] = with_value(items[at], place[1:], value)
    else:
        parts = list(items[at])
        parts[place[0]] = with_value(parts[place[0]], place[1:], value)
        items[at] = tuple(parts)
    return tuple(items)


class Parts(Case):
    def test_node_count(self):
        found = [node_count(program) for program in (LOG, ONE, seq(), seq(LOG, LOG), ("fork", LOG), LOOP)]
        self.exact(found, [1, 1, 1, 3, 2, 2])
        self.exact(node_count(("join", (("race", (LOG, ONE)), ("loop", 0, seq(ONE, LOG))))), 8)

    def test_depth(self):
        found = [depth(program) for program in (LOG, ONE, seq(), seq(LOG, seq(seq())), ("fork", LOG), LOOP)]
        self.exact(found, [1, 1, 1, 3, 2, 2])
        self.exact(depth(("join", (LOG, ("race", (LOG, ("loop", 0, seq(ONE, LOG))))))), 5)

    def test_words_of(self):
        loop = ("loop", 0, seq(("log", "z"), ONE))
        program = seq(("log", "b"), ("fork", ("log", "ab")), loop, ("log", "b"), ("log", "a"))
        self.exact(words_of(program), ("a", "ab", "b", "z"))
        self.exact([words_of(ONE), words_of(seq())], [(), ()])
        race = ("race", (("log", "q"), ("join", (("log", "p"),))))
        self.exact(words_of(race), ("p", "q"))

    def test_renamed(self):
        race = ("race", (("log", "c"),))
        program = seq(("log", "a"), ("fork", ("log", "b")), ("loop", 3, seq(("log", "a"), ONE)), race)
        wanted = seq(("log", "b"), ("fork", ("log", "a")), ("loop", 3, seq(("log", "b"), ONE)), race)
        self.exact(renamed(program, {"a": "b", "b": "a"}), wanted)
        self.exact(renamed(program, {"b": "a", "a": "b"}), wanted)
        self.exact([renamed(program, {}), renamed(ONE, {"a": "b"})], [program, ONE])
        self.exact(renamed(program, {"log": "x", "seq": "y", "z": "a"}), program)
        self.exact(renamed(("log", "log"), {"log": "seq", "seq": "fork"}), ("log", "seq"))
        self.exact(renamed(("join", (LOG, ONE)), {"a": "abcdefgh"}), ("join", (("log", "abcdefgh"), ONE)))

    def test_names_are_not_changed(self):
        names = {"a": "b", "b": "c"}
        renamed(seq(LOG, ("log", "z")), names)
        self.exact(names, {"a": "b", "b": "c"})

    def test_places(self):
        self.exact(places(LOG), ((),))
        program = seq(("fork", LOG), LOOP, ("join", (LOG, ("race", (LOG, ONE)))), seq())
        wanted = ((), (0,), (0, 0), (1,), (1, 0), (2,), (2, 0), (2, 1), (2, 1, 0), (2, 1, 1), (3,))
        self.exact(places(program), wanted)
        self.exact(places(seq(*[ONE] * 12))[-3:], ((9,), (10,), (11,)))

    def test_part_at(self):
        program = seq(("fork", LOG), LOOP, ("join", (LOG, ("race", (LOG, ONE)))), seq())
        found = [part_at(program, place) for place in ((), (0,), (0, 0), (1, 0), (2, 1), (2, 1, 1), (3,))]
        self.exact(found, [program, ("fork", LOG), LOG, ONE, ("race", (LOG, ONE)), ONE, seq()])


class NoPlaces(Case):
    PROGRAM = seq(("fork", LOG), LOOP, ("join", (LOG, ONE)), seq())
    PLACES = (
        (4,), (-1,), (-4,), (0, 1), (0, -1), (1, 1), (2, 2), (3, 0), (0, 0, 0), (1, 0, 0),
        (True,), (False,), (0, False),
        (2, True), (None,), ("0",), ("",), ((),), ((0,),), ([],), ({},), (10 ** 40,), (-10 ** 40,), [], [0], {}, {0: 0},
        0, 1, None, True, False, "", "0", (0, (0,)),
        nested(lambda core: (core,), 39, 0), nested(lambda core: [core], 39, 0),
        (0, 0, "x"), (0, [0]), (2, 0, 0),
    )

    def test_part_at(self):
        for place in self.PLACES:
            self.raises(NoPlace, {"place": place}, part_at, self.PROGRAM, place)

    def test_replaced(self):
        for place in self.PLACES:
            self.raises(NoPlace, {"place": place}, replaced, self.PROGRAM, place, LOG)

    def test_no_place_comes_ahead_of_a_bad_program(self):
        self.raises(NoPlace, {"place": (1,)}, replaced, ("loop", 2, ONE), (1,), LOG)
        self.raises(NoPlace, {"place": [0]}, replaced, ("loop", 2, ONE), [0], LOG)

    def test_the_error_has_the_place_itself(self):
        place = [0, {"a": 1}]
        with self.assertRaises(NoPlace) as caught:
            part_at(LOG, place)
        self.assertIs(caught.exception.place, place)
        self.exact(place, [0, {"a": 1}])


class Replaced(Case):
    def test_whole(self):
        self.exact(replaced(P, (), LOG), LOG)
        self.exact(replaced(LOG, (), P), P)

    def test_each_kind(self):
        self.exact(replaced(("fork", LOG), (0,), P), ("fork", P))
        self.exact(replaced(LOOP, (0,), ("await", 6)), ("loop", 2, ("await", 6)))
        self.exact(replaced(("join", (LOG, LOG)), (1,), ONE), ("join", (LOG, ONE)))
        self.exact(replaced(("race", (LOG, LOG)), (0,), ONE), ("race", (ONE, LOG)))
        self.exact(replaced(seq(LOG, seq(LOG, LOG)), (1, 0), ONE), seq(LOG, seq(ONE, LOG)))

    def test_results_that_are_not_programs(self):
        deep, wide = nested(seq, 11, LOG), [seq(*[LOG] * 12) for _ in range(6)]
        cases = (
            (seq(LOG), (0,), deep, seq(deep)),
            (seq(*wide, LOG), (6,), seq(LOG), seq(*wide, seq(LOG))),
            (LOOP, (0,), LOOP, ("loop", 2, LOOP)),
            (LOOP, (0,), ("await", 7), ("loop", 2, ("await", 7))),
            (seq(*[LOOP] * 8, LOG), (8,), LOOP, seq(*[LOOP] * 9)),
            (LOOP, (0,), seq(), ("loop", 2, seq())),
            (LOG, (), ("await", 0), ("await", 0)),
            (seq(LOG, LOG), (1,), ("log", "A"), seq(LOG, ("log", "A"))),
        )
        for program, place, other, wanted in cases:
            self.raises(BadProgram, {"value": wanted}, replaced, program, place, other)

    def test_results_at_the_limits(self):
        deep, wide = nested(seq, 10, LOG), [seq(*[LOG] * 12) for _ in range(6)]
        cases = (
            (seq(LOG), (0,), deep, seq(deep)),
            (seq(*wide, LOG), (6,), seq(), seq(*wide, seq())),
            (LOOP, (0,), ("await", 6), ("loop", 2, ("await", 6))),
            (seq(*[LOOP] * 7, LOG), (7,), LOOP, seq(*[LOOP] * 8)),
        )
        for program, place, other, wanted in cases:
            self.exact(replaced(program, place, other), wanted)
