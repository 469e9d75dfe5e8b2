"""The examples of the document, with exactly these results and errors."""

from awaitrounds.company import (
    as_program, company_entries, company_entry, company_number, company_total, is_company,
)
from awaitrounds.counts import count_before, entries, entry, total
from awaitrounds.desk import Desk
from awaitrounds.equality import changes, first_difference, same, shows_teller, teller, test_entry
from awaitrounds.errors import BadProgram, BadText, NoEntry, TooLong
from awaitrounds.explain import events_of, explained, observed
from awaitrounds.forms import form_of, forked, is_form, joined, program_of, raced, repeated, then
from awaitrounds.programs import depth, is_program, node_count, part_at, places, renamed, replaced, words_of
from awaitrounds.queues import Queue
from awaitrounds.rounds import finish, last_round, marked, words_in
from awaitrounds.texts import read_company, read_program, show_program
from awaitrounds.wishes import (
    contradiction, event_round, fewest_awaits, is_ahead, lag, planned, shows_contradiction, steps_of,
)
from tests.checks import Case

P = ("seq", (("fork", ("seq", (("await", 1), ("log", "b")))), ("log", "a"), ("await", 1), ("log", "c")))
Q = ("seq", (("log", "a"), ("await", 1), ("log", "b"), ("log", "c")))
L = ("loop", 10 ** 18, ("seq", (("log", "x"), ("await", 2))))
A, B = ("seq", (("log", "a"), ("await", 1))), ("seq", (("await", 1), ("log", "b")))


class Programs(Case):
    def test_is_program(self):
        found = [
            is_program(("log", "a")), is_program(("seq", ())), is_program(("join", ())),
            is_program(("loop", 3, ("log", "a"))),
        ]
        self.exact(found, [True, True, False, False])

    def test_counts_and_names(self):
        found = [node_count(P), depth(P), words_of(P), renamed(("log", "a"), {"a": "z", "b": "y"})]
        self.exact(found, [8, 4, ("a", "b", "c"), ("log", "z")])

    def test_places(self):
        found = [
            places(("fork", ("seq", (("log", "a"),)))), part_at(Q, (2,)),
            replaced(("fork", Q), (0, 1), ("await", 5))[1][1][1],
        ]
        self.exact(found, [((), (0,), (0, 0)), ("log", "b"), ("await", 5)])

    def test_replaced_without_a_program(self):
        wanted = {"value": ("loop", 2, ("log", "a"))}
        self.raises(BadProgram, wanted, replaced, ("loop", 2, ("await", 1)), (0,), ("log", "a"))


class Rounds(Case):
    def test_finish_and_last_round(self):
        found = [finish(P), last_round(P), finish(L), last_round(L), last_round(("await", 7))]
        self.exact(found, [1, 1, 2000000000000000000, 1999999999999999998, None])

    def test_marked(self):
        found = [
            marked(P, 0), marked(P, 1), marked(("race", (A, B)), 1), marked(("join", (A, B)), 1), words_in(P, 1),
        ]
        self.exact(found, [("a",), ("b", "c", None), (None, "b"), ("b", None), ("b", "c")])

    def test_marked_far(self):
        found = [marked(L, 10 ** 18), marked(L, 10 ** 18 + 1), marked(L, 2 * 10 ** 18)]
        self.exact(found, [("x",), (), (None,)])


class Forms(Case):
    ONE, OTHER = (1, (("a",), (None, "b"))), (0, (("c", None),))

    def test_form_of(self):
        found = [form_of(P), form_of(("race", (A, B))), is_form((0, ((None,), (None,))))]
        self.exact(found, [(1, (("a",), ("b", "c", None))), (1, (("a",), (None, "b"))), False])

    def test_form_of_a_long_loop(self):
        self.raises(TooLong, {"limit": 24}, form_of, L)

    def test_program_of(self):
        form = (2, (("a",), (), ("b", None, "c"), (None, "d")))
        self.exact(form_of(program_of(form)), (2, (("a",), (), ("b", None, "c"), (None, "d"))))

    def test_then_forked_repeated(self):
        found = [then(self.ONE, self.OTHER), forked(self.ONE), repeated(self.ONE, 2)]
        wanted = [
            (1, (("a",), ("c", None, "b"))), (0, (("a", None), ("b", None))), (2, (("a",), ("a", "b"), (None, "b"))),
        ]
        self.exact(found, wanted)

    def test_joined_raced(self):
        found = [joined((self.ONE, self.OTHER)), raced((self.ONE, self.OTHER))]
        self.exact(found, [(1, (("a", "c"), (None, "b"))), (0, (("a", "c", None), ("b", None)))])


class Counts(Case):
    def test_total_and_count_before(self):
        self.exact([total(P), count_before(P, 1), total(L), count_before(L, 7)], [3, 1, 1000000000000000000, 4])

    def test_entry_and_entries(self):
        self.exact([entry(L, 10 ** 17), entries(P, 1, 9)], [(200000000000000000, "x"), ("b", "c")])

    def test_a_boolean_is_no_number(self):
        self.raises(NoEntry, {"number": True}, entry, ("log", "a"), True)


class Companies(Case):
    def test_entry(self):
        found = [is_company((P, A)), is_company(()), company_total((B, P)), company_entry((B, P), 1)]
        self.exact(found, [True, False, 4, (0, 0, 1, "b")])

    def test_entries_and_number(self):
        found = [company_entries((B, P), 0, 4), company_number((B, P), 1, 0), company_number((B, P), 1, 2)]
        self.exact(found, [((1, "a"), (0, "b"), (1, "b"), (1, "c")), 0, 3])

    def test_as_program(self):
        self.exact(as_program((("log", "a"), ("await", 2))), ("join", (("log", "a"), ("await", 2))))


class Equality(Case):
    def test_same_and_first_difference(self):
        found = [same(P, Q), first_difference(P, Q), first_difference(("race", (A, B)), ("join", (A, B)))]
        self.exact([*found, first_difference(A, B)], [True, None, (1, 0), (0, 0)])

    def test_far(self):
        twice = ("loop", 5 * 10 ** 17, ("seq", (("log", "x"), ("await", 2), ("log", "x"), ("await", 2))))
        longer = ("seq", (twice, ("log", "x")))
        self.exact([same(L, twice), first_difference(L, longer)], [True, (2000000000000000000, 0)])

    def test_changes(self):
        self.exact([changes(L)[0], changes(("log", "a"))[0]], [0, 0])

    def test_tests(self):
        race, join = ("race", (A, B)), ("join", (A, B))
        found = [
            test_entry(race, (0, None), 1), test_entry(join, (0, None), 1), shows_teller(race, join, ((0, None), 1)),
            shows_teller(race, join, ((None, 5), 1)), teller(race, race),
        ]
        self.exact(found, [0, "b", True, False, None])


class Wishes(Case):
    C = (P, ("seq", (("await", 1), ("log", "x"))))

    def test_steps_and_planned(self):
        found = [len(steps_of(Q)), steps_of(("log", "a")), planned((Q, ("log", "z")), ((0, 0, 2, 0), (1,)))[1]]
        self.exact(found, [4, (("log", "a"),), ("seq", (("await", 1), ("log", "z")))])

    def test_rounds_and_orders(self):
        plan = ((0, 0, 0, 0), (0, 0))
        found = [
            event_round(self.C, plan, (0, 3, 0)), is_ahead(self.C, plan, (1, 1, 0), (0, 3, 0)),
            is_ahead(self.C, ((0, 0, 1, 0), (0, 0)), (1, 1, 0), (0, 3, 0)),
        ]
        self.exact(found, [1, False, True])

    def test_lag(self):
        wishes = (((1, 1, 0), (0, 3, 0)), ((0, 3, 0), (1, 1, 0)), ((0, 3, 0), (0, 1, 0)))
        self.exact([lag(self.C, wish) for wish in wishes], [1, 0, 2])

    def test_plans_and_contradictions(self):
        wishes = (((1, 1, 0), (0, 3, 0)), ((0, 3, 0), (1, 1, 0)))
        found = [
            fewest_awaits(self.C, wishes[:1]), fewest_awaits(self.C, wishes),
            shows_contradiction(self.C, wishes, (0, 1)), shows_contradiction(self.C, wishes, (0,)),
            contradiction(self.C, ()),
        ]
        self.exact(found, [((0, 0, 0, 1), (0, 0)), None, True, False, None])


class Observations(Case):
    C = (P, ("log", "x"))

    def test_events_and_observed(self):
        found = [events_of(self.C), observed(self.C, ((0, 1, 0, 0), (0,)))]
        wanted = [
            ((0, 0, 0), (0, 1, 0), (0, 3, 0), (1, 0, 0)), ((1, 0, 0), (0, 0, 0), (0, 1, 0), (0, 3, 0)),
        ]
        self.exact(found, wanted)

    def test_explained(self):
        found = [
            explained(self.C, ((1, 0, 0), (0, 0, 0), (0, 1, 0), (0, 3, 0))),
            explained(self.C, ((0, 3, 0), (0, 1, 0), (0, 0, 0), (1, 0, 0))),
        ]
        self.exact(found, [((0, 1, 0, 0), (0,)), None])


class Queues(Case):
    def test_step_by_step(self):
        queue = Queue((P, B))
        first = (queue.call_next(), queue.waiting())
        second = (queue.call_next(), queue.call_next(), queue.call_next(), queue.waiting(), queue.finished())
        wanted = ((((0, "a"),), 3), (((0, "b"),), ((0, "c"),), ((1, "b"),), 0, (0, 1)))
        self.exact((first, second), wanted)

    def test_undo_and_add(self):
        queue = Queue((("log", "a"),))
        first = (queue.run(5), queue.log(), queue.undo(), queue.log(), queue.waiting())
        second = (queue.add(("log", "b")), queue.run(9), queue.log(), len(queue))
        self.exact((first, second), ((1, ((0, "a"),), None, (), 1), (1, 2, ((0, "a"), (1, "b")), 2)))


class Texts(Case):
    def test_show_and_read(self):
        found = [show_program(P), read_program("loop 3 seq(log x; await 2)"), show_program(("seq", ()))]
        wanted = [
            "seq(fork(seq(await 1; log b)); log a; await 1; log c)",
            ("loop", 3, ("seq", (("log", "x"), ("await", 2)))), "seq()",
        ]
        self.exact(found, wanted)

    def test_a_missing_blank(self):
        self.raises(BadText, {"position": 11}, read_program, "join(log a;log b)")

    def test_a_bad_line(self):
        self.raises(BadText, {"position": 2}, read_company, "log a\nfork(log b)\nloop 2 log c")


class Desks(Case):
    def test_lines(self):
        desk = Desk()
        one = (desk.say("let p race(seq(log a; await 1); seq(await 1; log b))"), desk.say("let q log z"))
        lines = ("round p 1", "same p q", "company 0 9 p q", "entry p 1", "names")
        wanted = (("ok", "ok"), ("_ b", "no 0 0", "0:a 1:z 0:b", "1 b", "p q"))
        self.exact((one, tuple([desk.say(line) for line in lines])), wanted)
