"""Wishes: plans, events and their rounds, and wishes that can or cannot be fulfilled together."""

import itertools
import random

from awaitrounds.company import company_entries, company_entry, company_total, is_company
from awaitrounds.errors import BadEvent, BadPlan, BadWish
from awaitrounds.programs import is_program
from awaitrounds.rounds import finish, marked
from awaitrounds.wishes import (
    contradiction, event_round, fewest_awaits, is_ahead, lag, planned, shows_contradiction, steps_of,
)
from tests.checks import ODD_VALUES, Case
from tests.drawing import drawn_companies
from tests.plans import delays_of, drawn_plan, no_awaits, order_with, small_plans
from tests.small_queue import company_log, event_log, in_order, parts_of, run_rows

A, B, C = ("log", "a"), ("log", "b"), ("log", "c")
FAR = 10 ** 18


def seq(*parts):
    return ("seq", parts)


def wait(count):
    return ("await", count)


class Steps(Case):
    def test_each_kind(self):
        self.exact(steps_of(seq(A, wait(1), seq(B, C))), (A, wait(1), seq(B, C)))
        for program in (A, wait(3), ("fork", seq(A, B)), ("join", (A, B)), ("race", (seq(A), B)),
                        ("loop", 3, seq(A, wait(1)))):
            self.exact(steps_of(program), (program,))
        self.exact([steps_of(seq()), steps_of(seq(seq())), steps_of(seq(A))], [(), (seq(),), (A,)])


class Planned(Case):
    COMPANY = (seq(A, wait(1), B), C, seq(), ("loop", FAR, seq(A, wait(2))))

    def test_without_awaits(self):
        self.exact(planned(self.COMPANY, ((0, 0, 0), (0,), (), (0,))), self.COMPANY)

    def test_awaits_stand_directly_ahead_of_their_step(self):
        found = planned(self.COMPANY, ((2, 0, 5), (1,), (), (7,)))
        wanted = (
            seq(wait(2), A, wait(1), wait(5), B), seq(wait(1), C), seq(), seq(wait(7), self.COMPANY[3]),
        )
        self.exact(found, wanted)
        self.exact(planned((seq(seq(A)), seq(A)), ((1,), (0,))), (seq(wait(1), seq(A)), seq(A)))
        self.exact(planned((("fork", A), ("join", (A, B))), ((1,), (0,))), (seq(wait(1), ("fork", A)), ("join", (A, B))))

    def test_huge_plans(self):
        company = (A, seq(B, C))
        for many in (FAR, FAR + 1, 10 ** 40):
            found = planned(company, ((many,), (0, many)))
            self.exact(found, (seq(wait(many), A), seq(B, wait(many), C)))
            self.exact(is_company(found), many == FAR)
            self.exact([finish(program) for program in found], [many, many])
            self.exact([marked(found[0], many - 1), marked(found[1], many)], [(), ("c", None)])
            self.exact(company_entries(found, 0, 3), ((1, "b"), (0, "a"), (1, "c")))
            self.exact(company_entry(found, 1), (0, 0, many, "a"))
            again = planned(found, ((1, 0), (0, 0, many)))
            self.exact(again, (seq(wait(1), wait(many), A), seq(B, wait(many), wait(many), C)))
            self.exact(event_round(again, no_awaits(again), (1, 3, 0)), 2 * many)

    def test_results_that_are_no_company(self):
        company = (seq(*[A] * 12), seq(*[seq(*[B] * 12) for _ in range(6)]))
        found = planned(company, ((1,) * 12, (1,) * 6))
        self.exact([is_company(found), [is_program(program) for program in found]], [False, [False, False]])
        self.exact(len(steps_of(found[0])), 24)
        self.exact([company_total(found), finish(found[0]), finish(found[1])], [84, 12, 6])
        self.exact(event_round(found, ((0,) * 23 + (4,), (0,) * 12), (0, 23, 0)), 16)
        self.exact(lag(found, ((0, 23, 0), (1, 1, 0))), 11)
        wishes = (((0, 23, 0), (1, 11, 3)), ((1, 3, 0), (0, 1, 0)))
        self.exact(fewest_awaits(found, wishes), ((0, 2) + (0,) * 22, (0,) * 11 + (8,)))
        self.exact(contradiction(found, wishes), None)

    def test_values_of_every_kind(self):
        company = (seq(A, B), C)
        self.exact(planned(company, ((0, 0), (0,))), company)
        for value in (*ODD_VALUES, 0, 1, (), ((0, 0),), ((0, 0), (0,), (0,)), ((0,), (0, 0)), ((0, 0), 0)):
            self.raises(BadPlan, {"plan": value}, planned, company, value)

    def test_values_of_every_kind_within(self):
        company = (seq(A, B), C)
        bad = [value for value in ODD_VALUES if value != [0]]
        for value in (*bad, (), (0,), [0, 0], (0, 0, 0), "00", {0: 0, 1: 0}):
            self.raises(BadPlan, {"plan": (value, (0,))}, planned, company, (value, (0,)))
        for value in (*ODD_VALUES, (), (0,), "0", -1, True):
            for plan in (((0, value), (0,)), ((0, 0), (value,))):
                self.raises(BadPlan, {"plan": plan}, planned, company, plan)
        for plan in ([(0, 0), (0,)], ([0, 0], (0,)), ((0, 0), [0]), {(0, 0): 0, (0,): 0}):
            self.raises(BadPlan, {"plan": plan}, planned, company, plan)

    def test_programs_without_steps(self):
        self.exact(planned((seq(),), ((),)), (seq(),))
        for plan in (((0,),), (), ((), ()), (None,), ([],)):
            self.raises(BadPlan, {"plan": plan}, planned, (seq(),), plan)

    def test_the_very_value(self):
        plan = [[1]]
        with self.assertRaises(BadPlan) as caught:
            planned((A,), plan)
        self.assertIs(caught.exception.plan, plan)

    def test_the_log_against_a_run(self):
        source = random.Random(1201)
        for company in drawn_companies(1202, 200, 4, 12):
            plan = drawn_plan(source, company)
            result = planned(company, plan)
            self.exact(company_total(result), len(event_log(company, plan)))
            wanted = tuple((event[0], word) for at, event, word in event_log(company, plan))
            self.exact(tuple(item for at, item in company_log(result)), wanted)
            self.exact(company_entries(result, 0, 2000), wanted[:2000])


class Events(Case):
    COMPANY = (seq(A, ("fork", seq(B, wait(3), C)), wait(1), B), ("loop", FAR, seq(A, wait(2))), seq())

    def test_wrong_values(self):
        plan = no_awaits(self.COMPANY)
        good = (0, 0, 0)
        bad = (
            (0, 4, 0), (0, 2, 0), (0, 1, 2), (0, 0, 1), (-1, 0, 0), (0, -1, 0), (0, 0, -1), (3, 0, 0), (2, 0, 0),
            (1, 1, 0), (1, 0, FAR), (1, 0, 10 ** 40), (True, 0, 0), (0, True, 0), (0, 1, True), (0, 0, False),
            (False, 0, 0), (0, 0), (0, 0, 0, 0), [0, 0, 0], (0, [0], 0), (None, 0, 0), (0, None, 0), (0, 0, None),
            ("0", 0, 0), "000", {0: 0}, ((0, 0, 0),),
        )
        for value in (*ODD_VALUES, 0, (), *bad):
            self.raises(BadEvent, {"event": value}, event_round, self.COMPANY, plan, value)
            self.raises(BadEvent, {"event": value}, is_ahead, self.COMPANY, plan, value, good)
            self.raises(BadEvent, {"event": value}, is_ahead, self.COMPANY, plan, good, value)
            self.raises(BadEvent, {"event": value}, is_ahead, self.COMPANY, plan, value, [1])
            for wish in ((value, good), (good, value)):
                self.raises(BadWish, {"wish": wish}, lag, self.COMPANY, wish)

    def test_values_of_every_kind_within(self):
        plan = no_awaits(self.COMPANY)
        for value in (*ODD_VALUES, (), (0,), "0", 10 ** 40):
            for event in ((value, 0, 0), (0, value, 0), (0, 0, value), (value,) * 3):
                self.raises(BadEvent, {"event": event}, event_round, self.COMPANY, plan, event)

    def test_the_very_value(self):
        event = [0, 0, 0]
        with self.assertRaises(BadEvent) as caught:
            event_round(self.COMPANY, no_awaits(self.COMPANY), event)
        self.assertIs(caught.exception.event, event)
        with self.assertRaises(BadEvent) as caught:
            is_ahead(self.COMPANY, no_awaits(self.COMPANY), event, (0, [0], 0))
        self.assertIs(caught.exception.event, event)

    def test_the_first_and_the_last_number(self):
        plan = ((0, 0, 0, 0), (5,), ())
        for number in (0, 1, FAR // 2, FAR - 1):
            self.exact(event_round(self.COMPANY, plan, (1, 0, number)), 5 + 2 * number)
        self.exact([event_round(self.COMPANY, plan, (0, 1, number)) for number in (0, 1)], [0, 3])

    def test_delays_add_up(self):
        plan = ((1, 10, 100, 1000), (FAR,), ())
        found = [event_round(self.COMPANY, plan, event) for event in ((0, 0, 0), (0, 1, 0), (0, 1, 1), (0, 3, 0))]
        self.exact(found, [1, 11, 14, 1112])
        self.exact(event_round(self.COMPANY, plan, (1, 0, 3)), FAR + 6)
        self.exact(event_round(self.COMPANY, ((0, 0, 0, 10 ** 40), (0,), ()), (0, 3, 0)), 10 ** 40 + 1)

    def test_an_event_is_not_ahead_of_itself(self):
        for event in ((0, 0, 0), (0, 1, 1), (1, 0, FAR - 1)):
            self.exact(is_ahead(self.COMPANY, no_awaits(self.COMPANY), event, event), False)


class WishValues(Case):
    COMPANY = (seq(A, wait(1), B), C)
    GOOD = (((0, 0, 0), (1, 0, 0)), ((1, 0, 0), (0, 2, 0)))

    def wrong(self):
        first, second = self.GOOD[0]
        bad = (
            (first, first), (first,), (first, second, second), [first, second], (list(first), second), (first, [1, 0, 0]),
            (first, (1, 0, 1)), ((2, 0, 0), first), (first, None), {first: second}, (first, (True, 0, 0)), first,
        )
        return (*ODD_VALUES, 0, (), *bad)

    def test_lag(self):
        for value in self.wrong():
            self.raises(BadWish, {"wish": value}, lag, self.COMPANY, value)

    def test_items_of_wishes(self):
        for value in self.wrong():
            for wishes in ((value,), (*self.GOOD, value), (value, *self.GOOD), (value, [2]), (value, value)):
                self.raises(BadWish, {"wish": value}, fewest_awaits, self.COMPANY, wishes)
                self.raises(BadWish, {"wish": value}, contradiction, self.COMPANY, wishes)
                for shown in ((0,), (), None, [0], (9,)):
                    self.raises(BadWish, {"wish": value}, shows_contradiction, self.COMPANY, wishes, shown)

    def test_wishes_that_contradict_each_other_are_refused_first(self):
        wishes = (((0, 2, 0), (0, 0, 0)), (1, 2))
        self.raises(BadWish, {"wish": (1, 2)}, fewest_awaits, self.COMPANY, wishes)
        self.raises(BadWish, {"wish": (1, 2)}, contradiction, self.COMPANY, wishes)

    def test_the_very_value(self):
        wish = [(0, 0, 0), (1, 0, 0)]
        for call in (lambda: lag(self.COMPANY, wish), lambda: contradiction(self.COMPANY, (wish, [1]))):
            with self.assertRaises(BadWish) as caught:
                call()
            self.assertIs(caught.exception.wish, wish)


class Lags(Case):
    def check(self, company, wish, wanted):
        self.exact(lag(company, wish), wanted)

    def test_programs_with_a_smaller_index_come_first(self):
        company = (seq(A, wait(2), B), seq(wait(2), C))
        self.check(company, ((0, 0, 0), (1, 1, 0)), -2)
        self.check(company, ((1, 1, 0), (0, 0, 0)), 3)
        self.check(company, ((0, 2, 0), (1, 1, 0)), 0)
        self.check(company, ((1, 1, 0), (0, 2, 0)), 1)

    def test_steps_ahead_of_their_gaps(self):
        company = (seq(A, ("fork", seq(wait(2), B, B)), wait(2), C),)
        self.check(company, ((0, 1, 0), (0, 3, 0)), 0)
        self.check(company, ((0, 3, 0), (0, 1, 0)), 1)
        self.check(company, ((0, 1, 1), (0, 1, 0)), 1)
        self.check(company, ((0, 1, 0), (0, 1, 1)), 0)
        self.check(company, ((0, 0, 0), (0, 1, 1)), -2)

    def test_steps_behind_their_gaps(self):
        early = ("race", (wait(1), seq(wait(2), A, A)))
        company = (seq(early, early, wait(1), B),)
        # In round 2 the first step logs two words behind its gap; in round 3 the second one does, and then b comes.
        self.exact([at for at, event, word in event_log(company, no_awaits(company))], [2, 2, 3, 3, 3])
        self.check(company, ((0, 0, 0), (0, 0, 1)), 0)
        self.check(company, ((0, 3, 0), (0, 1, 0)), 0)
        self.check(company, ((0, 1, 0), (0, 3, 0)), 1)
        self.check(company, ((0, 1, 0), (0, 0, 0)), 1)
        self.check(company, ((0, 0, 0), (0, 1, 0)), 0)
        both = (seq(("race", (seq(), A)), ("race", (seq(), B)), C),)
        self.exact([event for at, event, word in event_log(both, no_awaits(both))], [(0, 2, 0), (0, 1, 0), (0, 0, 0)])
        self.check(both, ((0, 1, 0), (0, 0, 0)), 0)
        self.check(both, ((0, 0, 0), (0, 1, 0)), 1)
        self.check(both, ((0, 2, 0), (0, 0, 0)), 0)

    def test_words_ahead_of_the_finish_count_as_ahead_of_the_gap(self):
        step = ("race", (wait(2), seq(wait(1), A, wait(1), B)))
        company = (seq(step, C),)
        self.check(company, ((0, 0, 0), (0, 1, 0)), -1)
        self.check(company, ((0, 1, 0), (0, 0, 0)), 2)
        self.check(company, ((0, 1, 0), (0, 0, 1)), 0)
        self.check(company, ((0, 0, 1), (0, 1, 0)), 1)

    def test_far(self):
        company = (("loop", FAR, seq(A, wait(3))), seq(B, ("loop", FAR, seq(wait(5), C))))
        self.check(company, ((0, 0, FAR - 1), (1, 0, 0)), 3 * FAR - 3)
        self.check(company, ((1, 1, FAR - 1), (0, 0, FAR - 1)), 5 * FAR - 3 * FAR + 3 + 1)
        self.check(company, ((0, 0, 5 * 10 ** 17), (1, 1, 3 * 10 ** 17 - 1)), 0)
        self.check(company, ((1, 1, 3 * 10 ** 17 - 1), (0, 0, 5 * 10 ** 17)), 1)


class DrawnEvents(Case):
    """Rounds, orders and lags against the small queue that runs the planned company."""

    def test_rounds_and_orders(self):
        source = random.Random(1203)
        for company in drawn_companies(1204, 500, 4, 14):
            plan = drawn_plan(source, company)
            log = event_log(company, plan)
            for at, event, word in log:
                self.exact(event_round(company, plan, event), at)
            order = {event: number for number, (at, event, word) in enumerate(log)}
            for _ in range(20 if log else 0):
                one, other = source.choice(log)[1], source.choice(log)[1]
                self.exact(is_ahead(company, plan, one, other), order[one] < order[other])

    def test_numbers_are_those_of_a_step_that_runs_alone(self):
        for company in drawn_companies(1205, 200, 3, 14):
            log = event_log(company, no_awaits(company))
            for program, whole in enumerate(company):
                for step, part in enumerate(parts_of(whole)):
                    own = in_order(run_rows(part)[1])
                    found = [(event[2], word) for at, event, word in log if event[:2] == (program, step)]
                    self.exact(found, [(number, word) for number, (at, word) in enumerate(own)])
                    self.raises(BadEvent, {"event": (program, step, len(own))}, event_round, company,
                                no_awaits(company), (program, step, len(own)))

    def test_lags(self):
        """A plan fulfils a wish exactly if the delays differ by the lag at least."""
        source = random.Random(1206)
        for company in drawn_companies(1207, 200, 3, 14):
            events = [event for at, event, word in event_log(company, no_awaits(company))]
            if len(events) < 2:
                continue
            wishes = [tuple(source.sample(events, 2)) for _ in range(15)]
            lags = [lag(company, wish) for wish in wishes]
            for _ in range(4):
                plan = drawn_plan(source, company, 4)
                order, delays = order_with(company, plan), delays_of(plan)
                for wish, least in zip(wishes, lags):
                    earlier, later = [delays[program][step] for program, step, number in wish]
                    self.exact(order[wish[0]] < order[wish[1]], later >= earlier + least)
                    self.exact(is_ahead(company, plan, *wish), later >= earlier + least)


def by_definition(company, wishes, value):
    """Whether a tuple of indexes shows a contradiction, word by word."""
    if not value:
        return False
    for former, latter in zip(value, (*value[1:], value[0])):
        (program, step, _), (other, opposite, _) = wishes[former][1], wishes[latter][0]
        if program != other or step > opposite:
            return False
    return sum(lag(company, wishes[index]) for index in value) > 0


class Fulfilled(Case):
    COMPANY = (seq(A, wait(1), B, C), seq(wait(1), A, B), C)

    def check(self, company, wishes, wanted):
        self.exact(fewest_awaits(company, wishes), wanted)
        self.exact(contradiction(company, wishes) is None, wanted is not None)
        if wanted is None:
            shown = contradiction(company, wishes)
            self.assertIsInstance(shown, tuple)
            self.exact([shows_contradiction(company, wishes, shown), by_definition(company, wishes, shown)], [True] * 2)
        else:
            self.exact([is_ahead(company, wanted, *wish) for wish in wishes], [True] * len(wishes))

    def test_no_wishes(self):
        self.check(self.COMPANY, (), ((0, 0, 0, 0), (0, 0, 0), (0,)))
        self.check((seq(),), (), ((),))
        self.check((seq(), A, seq()), (), ((), (0,), ()))

    def test_wishes_that_hold_already(self):
        wishes = (((0, 0, 0), (0, 2, 0)), ((0, 2, 0), (1, 1, 0)), ((2, 0, 0), (0, 3, 0)))
        self.check(self.COMPANY, wishes, ((0, 0, 0, 0), (0, 0, 0), (0,)))

    def test_one_wish(self):
        self.check(self.COMPANY, (((2, 0, 0), (0, 0, 0)),), ((1, 0, 0, 0), (0, 0, 0), (0,)))
        self.check(self.COMPANY, (((1, 1, 0), (0, 2, 0)),), ((0, 0, 1, 0), (0, 0, 0), (0,)))
        self.check(self.COMPANY, (((1, 2, 0), (2, 0, 0)),), ((0, 0, 0, 0), (0, 0, 0), (1,)))

    def test_wishes_one_behind_the_other(self):
        wishes = (((0, 3, 0), (2, 0, 0)), ((2, 0, 0), (1, 1, 0)), ((1, 2, 0), (0, 3, 0)))
        self.check(self.COMPANY, wishes[:2], ((0, 0, 0, 0), (0, 1, 0), (1,)))
        self.check(self.COMPANY, wishes[1:], ((0, 0, 0, 1), (0, 0, 0), (0,)))
        self.check(self.COMPANY, wishes, None)

    def test_within_one_step(self):
        company = (seq(A, ("fork", seq(B, wait(2), C))),)
        self.check(company, (((0, 1, 0), (0, 1, 1)),), ((0, 0),))
        self.check(company, (((0, 1, 1), (0, 1, 0)),), None)
        self.exact(contradiction(company, (((0, 1, 1), (0, 1, 0)),)), (0,))
        self.check((A,), (), ((0,),))
        loop = (("loop", FAR, seq(A, wait(1))),)
        self.check(loop, (((0, 0, 5), (0, 0, FAR - 1)),), ((0,),))
        self.check(loop, (((0, 0, FAR - 1), (0, 0, 5)),), None)

    def test_within_one_program(self):
        company = (seq(("fork", seq(wait(3), A)), wait(1), B, C),)
        self.check(company, (((0, 0, 0), (0, 2, 0)),), ((0, 0, 2, 0),))
        self.check(company, (((0, 0, 0), (0, 3, 0)),), ((0, 0, 0, 2),))
        self.check(company, (((0, 3, 0), (0, 0, 0)),), ((0, 0, 0, 0),))
        self.check(company, (((0, 0, 0), (0, 3, 0)), ((0, 2, 0), (0, 0, 0))), ((0, 0, 0, 2),))
        self.check(company, (((0, 0, 0), (0, 2, 0)), ((0, 3, 0), (0, 0, 0))), None)
        self.check(company, (((0, 3, 0), (0, 2, 0)),), None)

    def test_in_a_ring(self):
        company = tuple(seq(A, B) for _ in range(5))
        ring = tuple(((index, 1, 0), ((index + 1) % 5, 0, 0)) for index in range(5))
        self.check(company, ring, None)
        self.exact(sorted(contradiction(company, ring)), [0, 1, 2, 3, 4])
        for missing in range(5):
            wanted, reached = [None] * 5, 0
            for step in range(1, 6):
                index = (missing + step) % 5
                # The program behind the missing wish starts at once; only from the last one to the first one an
                # await is needed.
                reached += index == 0 and step > 1
                wanted[index] = (reached, 0)
            self.check(company, ring[:missing] + ring[missing + 1:], tuple(wanted))
        loose = tuple(((index, 0, 0), ((index + 1) % 5, 1, 0)) for index in range(5))
        self.check(company, loose, ((0, 1),) + ((0, 0),) * 4)

    def test_rings_through_several_steps(self):
        company = (seq(A, wait(4), B), seq(C, wait(9), A))
        wishes = (((0, 2, 0), (1, 0, 0)), ((1, 2, 0), (0, 0, 0)))
        self.check(company, wishes[:1], ((0, 0, 0), (4, 0, 0)))
        self.check(company, wishes[1:], ((10, 0, 0), (0, 0, 0)))
        self.check(company, wishes, None)
        self.exact(sorted(contradiction(company, wishes)), [0, 1])

    def test_more_than_10_to_18_awaits(self):
        company = (("loop", FAR, seq(A, wait(6))), seq(("loop", FAR, seq(wait(5), B)), C))
        wish = ((0, 0, FAR - 1), (1, 0, 0))
        self.check(company, (wish,), ((0,), (6 * FAR - 6 - 5, 0)))
        self.check(company, (wish, ((1, 1, 0), (0, 0, FAR - 1))), None)
        plan = fewest_awaits(company, (wish,))
        result = planned(company, plan)
        self.exact(is_company(result), False)
        self.exact([event_round(company, plan, event) for event in wish], [6 * FAR - 6, 6 * FAR - 6])
        self.exact(event_round(result, no_awaits(result), (1, 1, 0)), 6 * FAR - 6)
        self.exact(company_entry(result, FAR), (1, 0, 6 * FAR - 6, "b"))
        behind = ((1, 2, 0), (0, 0, 0))
        self.exact(fewest_awaits(result, (behind,)), ((11 * FAR - 10,), (0, 0, 0)))

    def test_many_wishes(self):
        company = tuple(seq(*[seq(("log", "a"), wait(index + 1))] * 12) for index in range(8))
        order = [(index, step, 0) for step in range(12) for index in range(8)]
        wishes = tuple(zip(order, order[1:]))
        plan = fewest_awaits(company, wishes)
        log = [event for at, event, word in event_log(company, plan)]
        self.exact(log, order)
        self.check(company, wishes + ((order[-1], order[0]),), None)
        self.check(company, wishes + ((order[40], order[39]),), None)


class Drawn(Case):
    """Against all small plans gone through, each one run callback by callback."""

    MOST = 2

    def all_orders(self, company):
        return [(plan, order_with(company, plan)) for plan in small_plans(company, self.MOST)]

    def check(self, company, orders, wishes):
        plan = fewest_awaits(company, wishes)
        shown = contradiction(company, wishes)
        self.exact(plan is None, shown is not None)
        good = [other for other, order in orders if all(order[wish[0]] < order[wish[1]] for wish in wishes)]
        if plan is None:
            self.exact(good, [])
            self.exact([shows_contradiction(company, wishes, shown), by_definition(company, wishes, shown)], [True] * 2)
            return False
        order = order_with(company, plan)
        self.assertTrue(all(order[wish[0]] < order[wish[1]] for wish in wishes))
        least = delays_of(plan)
        for other in good:
            for row, opposite in zip(least, delays_of(other)):
                self.assertTrue(all(one <= another for one, another in zip(row, opposite)))
        if all(many <= self.MOST for row in plan for many in row):
            self.assertIn(plan, good)
        self.check_earlier(company, wishes, plan)
        return True

    def check_earlier(self, company, wishes, plan):
        """No step can begin one round earlier, while those behind it begin as before."""
        for program, row in enumerate(plan):
            for step, many in enumerate(row):
                if many > 0:
                    changed = list(row)
                    changed[step] -= 1
                    if step + 1 < len(row):
                        changed[step + 1] += 1
                    other = plan[:program] + (tuple(changed),) + plan[program + 1:]
                    order = order_with(company, other)
                    self.assertFalse(all(order[wish[0]] < order[wish[1]] for wish in wishes))

    def test_all_small_plans(self):
        source = random.Random(1208)
        fulfilled, refused = 0, 0
        for company in drawn_companies(1209, 800, 3, 9):
            events = [event for at, event, word in event_log(company, no_awaits(company))]
            if not 2 <= len(events) <= 40 or not 1 <= sum(map(len, no_awaits(company))) <= 5:
                continue
            orders = self.all_orders(company)
            for many in (1, 1, 2, 2, 3, 4, 6):
                wishes = tuple(tuple(source.sample(events, 2)) for _ in range(many))
                if self.check(company, orders, wishes):
                    fulfilled += 1
                else:
                    refused += 1
        self.assertTrue(fulfilled > 500 and refused > 500, (fulfilled, refused))

    def test_wishes_of_a_plan_can_be_fulfilled(self):
        """Wishes that are read off a run are fulfilled by no later steps than that run has."""
        source = random.Random(1210)
        for company in drawn_companies(1211, 600, 5, 14):
            plan = drawn_plan(source, company, 4)
            log = [event for at, event, word in event_log(company, plan)]
            if len(log) < 2:
                continue
            pairs = [sorted(source.sample(range(len(log)), 2)) for _ in range(8)]
            wishes = tuple((log[first], log[second]) for first, second in pairs)
            found = fewest_awaits(company, wishes)
            for row, opposite in zip(delays_of(found), delays_of(plan)):
                self.assertTrue(all(one <= another for one, another in zip(row, opposite)))
            self.check_earlier(company, wishes, found)
            self.exact(contradiction(company, wishes), None)
            self.exact([is_ahead(company, found, *wish) for wish in wishes], [True] * len(wishes))


class ShowsContradiction(Case):
    COMPANY = (seq(A, wait(1), B), seq(C, wait(1), A))
    WISHES = (
        ((0, 2, 0), (1, 0, 0)), ((1, 2, 0), (0, 0, 0)), ((0, 0, 0), (1, 2, 0)), ((1, 0, 0), (0, 2, 0)),
        ((0, 2, 0), (0, 0, 0)),
    )

    def test_values_of_every_kind(self):
        for value in (*ODD_VALUES, 0, 1, (), (5,), (0, 5), (0, -1), [0, 1], (0, True), (False, 1), (0, None), ((0, 1),),
                      ("0", "1"), {0: 1}, (0, [1]), (4, 10 ** 40), (4, -5)):
            self.exact(shows_contradiction(self.COMPANY, self.WISHES, value), False)
        self.exact(shows_contradiction(self.COMPANY, self.WISHES, (0, 1)), True)
        self.exact(shows_contradiction(self.COMPANY, self.WISHES, (4,)), True)

    def test_no_wishes(self):
        for value in (*ODD_VALUES, (), (0,), (0, 0)):
            self.exact(shows_contradiction(self.COMPANY, (), value), False)

    def test_each_short_tuple(self):
        good = 0
        for many in range(4):
            for value in itertools.product(range(5), repeat=many):
                wanted = by_definition(self.COMPANY, self.WISHES, value)
                self.exact(shows_contradiction(self.COMPANY, self.WISHES, value), wanted)
                good += wanted
        self.assertGreater(good, 10)

    def test_an_index_may_occur_several_times(self):
        for value in ((0, 1, 0, 1), (4, 4, 4), (0, 1) * 50):
            self.exact(shows_contradiction(self.COMPANY, self.WISHES, value), True)

    def test_the_sum_has_to_be_above_0(self):
        company = (A, B)
        wishes = (((0, 0, 0), (1, 0, 0)), ((1, 0, 0), (0, 0, 0)))
        self.exact([lag(company, wish) for wish in wishes], [0, 1])
        self.exact(shows_contradiction(company, wishes, (0, 1)), True)
        company = (A, seq(wait(1), B))
        loose = (((0, 0, 0), (1, 1, 0)), ((1, 1, 0), (0, 0, 0)))
        self.exact([lag(company, wish) for wish in loose], [-1, 2])
        self.exact(shows_contradiction(company, loose, (0, 1, 0, 1)), True)
        self.exact(shows_contradiction(company, (loose[0], loose[0]), (0, 1)), False)
        company = (seq(A, ("fork", seq(wait(1), B))), C)
        held = (((0, 0, 0), (1, 0, 0)), ((1, 0, 0), (0, 1, 0)))
        self.exact([lag(company, wish) for wish in held], [0, 0])
        self.exact([shows_contradiction(company, held, (0, 1)), contradiction(company, held)], [False, None])

    def test_drawn(self):
        source = random.Random(1212)
        good = 0
        for company in drawn_companies(1213, 150, 3, 9):
            events = [event for at, event, word in event_log(company, no_awaits(company))]
            if len(events) < 3:
                continue
            wishes = tuple(tuple(source.sample(events, 2)) for _ in range(5))
            for many in (1, 2, 3):
                for value in itertools.product(range(5), repeat=many):
                    wanted = by_definition(company, wishes, value)
                    good += wanted
                    self.exact(shows_contradiction(company, wishes, value), wanted)
        self.assertGreater(good, 300)
