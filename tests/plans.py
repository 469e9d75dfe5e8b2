"""Plans of companies, for the tests."""

import itertools

from tests.small_queue import event_log, parts_of


def no_awaits(company):
    """The plan without awaits."""
    return tuple((0,) * len(parts_of(program)) for program in company)


def small_plans(company, most):
    """All plans with at most so many awaits ahead of each step."""
    rows = [list(itertools.product(range(most + 1), repeat=len(parts_of(program)))) for program in company]
    return itertools.product(*rows)


def drawn_plan(source, company, most=3):
    return tuple(tuple(source.randint(0, most) for _ in parts_of(program)) for program in company)


def delays_of(plan):
    """The delays of all steps, program by program."""
    return [list(itertools.accumulate(row)) for row in plan]


def events_with(company, plan):
    """The tuple of all events in the order of a run with a plan."""
    return tuple(event for at, event, word in event_log(company, plan))


def order_with(company, plan):
    """The numbers in the log of all events with a plan, by a run."""
    return {event: number for number, event in enumerate(events_with(company, plan))}
