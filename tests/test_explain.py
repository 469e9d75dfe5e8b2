"""Observations: events in the order of a log, and the least plan behind an order."""

import random

from awaitrounds.company import company_total
from awaitrounds.counts import total
from awaitrounds.errors import BadObservation, BadPlan, TooMany
from awaitrounds.explain import events_of, explained, observed
from awaitrounds.wishes import fewest_awaits, planned, steps_of
from tests.checks import ODD_VALUES, Case
from tests.drawing import drawn_companies
from tests.plans import delays_of, drawn_plan, events_with, no_awaits, small_plans

A, B, C = ("log", "a"), ("log", "b"), ("log", "c")
FAR = 10 ** 18


def seq(*parts):
    return ("seq", parts)


def wait(count):
    return ("await", count)


def small_companies(seed, many, most_programs, nodes):
    """Drawn companies with at most 400 events."""
    return [company for company in drawn_companies(seed, many, most_programs, nodes) if company_total(company) <= 400]


def shuffled(source, items):
    return tuple(source.sample(items, len(items)))


class Events(Case):
    def test_ascending(self):
        company = (seq(seq(A, wait(2), B), ("fork", seq(wait(9), C))), seq(), wait(4), ("loop", 3, seq(wait(1), A)))
        wanted = ((0, 0, 0), (0, 0, 1), (0, 1, 0), (3, 0, 0), (3, 0, 1), (3, 0, 2))
        self.exact(events_of(company), wanted)

    def test_no_events(self):
        for company in ((seq(),), (wait(FAR), seq(wait(1), ("fork", wait(2)))), (("loop", 0, seq(A, wait(1))),)):
            self.exact([events_of(company), observed(company, no_awaits(company))], [(), ()])
            self.exact(explained(company, ()), no_awaits(company))

    def test_numbers_and_not_texts_decide(self):
        company = (("loop", 12, seq(A, wait(1))),) * 2
        self.exact(events_of(company), tuple((program, 0, number) for program in range(2) for number in range(12)))

    def test_each_entry_of_each_step(self):
        for company in small_companies(2201, 300, 8, 30):
            wanted = []
            for program, whole in enumerate(company):
                for step, part in enumerate(steps_of(whole)):
                    wanted += [(program, step, number) for number in range(total(part))]
            self.exact(events_of(company), tuple(wanted))


class Limit(Case):
    SMALL = (("loop", 399, seq(A, wait(1))), B)
    LARGE = (("loop", 400, seq(A, wait(1))), B)
    HUGE = (("loop", FAR, seq(A, wait(1))),) * 8

    def test_four_hundred(self):
        plan = ((2,), (0,))
        order = events_with(self.SMALL, plan)
        self.exact(len(order), 400)
        self.exact([events_of(self.SMALL), observed(self.SMALL, plan)], [tuple(sorted(order)), order])
        self.exact(explained(self.SMALL, order), ((1,), (0,)))
        self.exact(explained(self.SMALL, order[::-1]), None)

    def test_beyond(self):
        more = (("loop", 40, seq(*[A] * 10, wait(1))), ("fork", B))
        for company in (self.LARGE, self.HUGE, more, (*self.SMALL, C), (A, ("loop", 134, seq(A, B, C, wait(6))))):
            self.raises(TooMany, {"limit": 400}, events_of, company)
            self.raises(TooMany, {"limit": 400}, observed, company, no_awaits(company))
            self.raises(TooMany, {"limit": 400}, explained, company, ())

    def test_ahead_of_all_other_errors(self):
        for company in (self.LARGE, self.HUGE):
            for value in (*ODD_VALUES, (), ((0,),), ((0, 0, 0),)):
                self.raises(TooMany, {"limit": 400}, observed, company, value)
                self.raises(TooMany, {"limit": 400}, explained, company, value)

    def test_events_are_counted_and_not_rounds(self):
        company = (seq(wait(FAR), A, ("loop", 200, seq(("fork", seq(wait(FAR), B)), wait(6)))), ("loop", FAR, wait(6)))
        self.exact(len(events_of(company)), 201)
        plan = ((0, 3, 0), (5,))
        self.exact(explained(company, observed(company, plan)), no_awaits(company))


class Observed(Case):
    def test_ranks_within_a_round(self):
        company = (seq(("race", (A, B)), ("fork", C)), seq(A), ("race", (seq(), A)))
        wanted = ((0, 0, 0), (0, 1, 0), (0, 0, 1), (1, 0, 0), (2, 0, 0))
        self.exact(observed(company, ((0, 0), (0,), (0,))), wanted)

    def test_far(self):
        company = (seq(wait(FAR), A), seq(B, wait(FAR), C))
        self.exact(observed(company, ((0, 0), (0, 0, 0))), ((1, 0, 0), (0, 1, 0), (1, 2, 0)))
        self.exact(observed(company, ((0, 1), (0, 0, 0))), ((1, 0, 0), (1, 2, 0), (0, 1, 0)))
        self.exact(observed(company, ((10 ** 40, 10 ** 40), (0, 10 ** 40, 10 ** 40))), ((1, 0, 0), (0, 1, 0), (1, 2, 0)))

    def test_against_a_run(self):
        source = random.Random(2202)
        for company in small_companies(2203, 400, 6, 16):
            for most in (0, 1, 5):
                plan = drawn_plan(source, company, most)
                self.exact(observed(company, plan), events_with(company, plan))

    def test_wrong_plans(self):
        company = (seq(A, B), C)
        for value in (*ODD_VALUES, 0, 1, (), ((0, 0),), ((0, 0), (0,), (0,)), ((0,), (0, 0)), ((0, 0), 0)):
            self.raises(BadPlan, {"plan": value}, observed, company, value)
        for value in (*ODD_VALUES, (), (0,), "0", -1, True):
            for plan in (((0, value), (0,)), ((0, 0), (value,))):
                self.raises(BadPlan, {"plan": plan}, observed, company, plan)
        for plan in ([(0, 0), (0,)], ([0, 0], (0,)), ((0, 0), [0]), {(0, 0): 0, (0,): 0}):
            self.raises(BadPlan, {"plan": plan}, observed, company, plan)

    def test_the_very_value(self):
        plan, order = [[1]], [(0, 0, 0)]
        with self.assertRaises(BadPlan) as caught:
            observed((A,), plan)
        self.assertIs(caught.exception.plan, plan)
        with self.assertRaises(BadObservation) as caught:
            explained((A,), order)
        self.assertIs(caught.exception.value, order)


class WrongObservations(Case):
    COMPANY = (seq(A, B), C)
    GOOD = ((0, 0, 0), (0, 1, 0), (1, 0, 0))

    def refused(self, *values):
        for value in values:
            self.raises(BadObservation, {"value": value}, explained, self.COMPANY, value)

    def test_values_of_every_kind(self):
        self.exact(explained(self.COMPANY, self.GOOD), ((0, 0), (0,)))
        self.refused(*ODD_VALUES, 0, 1, (), "000", list(self.GOOD), dict.fromkeys(self.GOOD), (self.GOOD,), [self.GOOD])

    def test_values_of_every_kind_within(self):
        for value in (*ODD_VALUES, 0, (), (0,), (0, 0), (0, 0, 0, 0), [0, 0, 0], "000", {0: 0, 1: 1, 2: 2}):
            self.refused((value, *self.GOOD[1:]), (*self.GOOD[:2], value), (*self.GOOD, value), (value,))
        for value in (*ODD_VALUES, 2, 5, 10 ** 40, "0", (0,)):
            self.refused(*[((value, 0, 0), *self.GOOD[1:]), ((0, value, 0), *self.GOOD[1:]),
                           ((0, 0, value), *self.GOOD[1:]), (*self.GOOD[:2], (1, value, 0))])

    def test_a_boolean_is_no_integer(self):
        self.refused(((False, 0, 0), *self.GOOD[1:]), ((0, False, 0), *self.GOOD[1:]), ((0, 0, False), *self.GOOD[1:]),
                     ((0, 0, 0), (0, True, 0), (1, 0, 0)), (*self.GOOD[:2], (True, 0, 0)))

    def test_each_event_once(self):
        self.refused(self.GOOD[:2], self.GOOD[1:], self.GOOD + self.GOOD[:1], self.GOOD + self.GOOD,
                     (self.GOOD[0], self.GOOD[0], self.GOOD[1]), (self.GOOD[0],) * 3)

    def test_events_that_there_are_not(self):
        self.refused((*self.GOOD[:2], (1, 0, 1)), (*self.GOOD[:2], (1, 1, 0)), (*self.GOOD[:2], (2, 0, 0)),
                     (*self.GOOD[:2], (-1, 0, 0)), (*self.GOOD[:2], (1, -1, 0)), (*self.GOOD[:2], (1, 0, -1)))

    def test_no_events(self):
        for value in (*ODD_VALUES, (self.GOOD[0],), ((),)):
            self.raises(BadObservation, {"value": value}, explained, (seq(), wait(3)), value)


class Explained(Case):
    def test_the_earliest_steps(self):
        company = (seq(A, B, C), seq(A, wait(2), B))
        order = ((1, 0, 0), (0, 0, 0), (1, 2, 0), (0, 1, 0), (0, 2, 0))
        self.exact(explained(company, order), ((1, 2, 0), (0, 0, 0)))
        self.exact(explained(company, (*order[:3], order[4], order[3])), None)

    def test_within_a_step_nothing_can_change(self):
        company = (seq(seq(A, B), ("race", (seq(), C))),)
        self.exact(explained(company, ((0, 0, 0), (0, 0, 1), (0, 1, 0))), ((0, 0),))
        for order in (((0, 0, 1), (0, 0, 0), (0, 1, 0)), ((0, 1, 0), (0, 0, 0), (0, 0, 1)),
                      ((0, 0, 0), (0, 1, 0), (0, 0, 1))):
            self.exact(explained(company, order), None)

    def test_words_behind_the_gap(self):
        company = (seq(("race", (seq(), A)), ("race", (seq(), B))),)
        self.exact(explained(company, ((0, 1, 0), (0, 0, 0))), ((0, 0),))
        self.exact(explained(company, ((0, 0, 0), (0, 1, 0))), ((0, 1),))

    def test_drawn_plans_are_explained(self):
        source = random.Random(2204)
        smaller = 0
        for company in small_companies(2205, 500, 6, 16):
            for most in (0, 1, 4):
                plan = drawn_plan(source, company, most)
                order = events_with(company, plan)
                found = explained(company, order)
                self.exact(events_with(company, found), order)
                for row, other in zip(delays_of(found), delays_of(plan)):
                    self.assertTrue(all(one <= another for one, another in zip(row, other)))
                smaller += found != plan
        self.assertGreater(smaller, 200)

    def test_orders_against_all_small_plans(self):
        source = random.Random(2206)
        without = 0
        for company in small_companies(2207, 150, 3, 5):
            if len(events_of(company)) > 6 or len([step for program in company for step in steps_of(program)]) > 5:
                continue
            orders = {}
            for plan in small_plans(company, 3):
                orders.setdefault(events_with(company, plan), []).append(plan)
            for order in [*orders, *[shuffled(source, events_of(company)) for _ in range(5)]]:
                without += self.check(company, order, orders.get(order, []))
        self.assertGreater(without, 100)

    def check(self, company, order, plans):
        """Whether an order has no plan; plans are the small ones with this order."""
        found = explained(company, order)
        if found is None:
            self.exact(plans, [])
            return True
        self.exact(events_with(company, found), order)
        least = delays_of(found)
        for plan in plans:
            for row, other in zip(least, delays_of(plan)):
                self.assertTrue(all(one <= another for one, another in zip(row, other)))
        if max([0, *[many for row in found for many in row]]) <= 3:
            self.assertIn(found, plans)
        return False

    def test_shuffled_orders_of_larger_companies(self):
        source = random.Random(2208)
        for company in small_companies(2209, 100, 4, 12):
            order = shuffled(source, events_of(company))
            found = explained(company, order)
            self.exact(found, fewest_awaits(company, tuple(zip(order, order[1:]))))
            if found is not None:
                self.exact(events_with(company, found), order)

    def test_two_exchanged(self):
        source = random.Random(2210)
        for company in small_companies(2211, 150, 4, 12):
            order = list(events_with(company, drawn_plan(source, company)))
            if len(order) < 2:
                continue
            at = source.randrange(len(order) - 1)
            order[at], order[at + 1] = order[at + 1], order[at]
            found = explained(company, tuple(order))
            if found is not None:
                self.exact(events_with(company, found), tuple(order))
                self.exact(observed(company, found), tuple(order))

    def test_as_planned(self):
        source = random.Random(2212)
        for company in small_companies(2213, 100, 4, 10):
            plan = drawn_plan(source, company)
            found = explained(company, observed(company, plan))
            once = planned(company, found)
            self.exact([event[0] for event in observed(once, no_awaits(once))], [event[0] for event in observed(company, plan)])
