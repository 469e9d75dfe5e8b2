"""Wishes: awaits that are added so that events come in wished orders."""

from awaitrounds.delays import least_delays
from awaitrounds.errors import BadEvent, BadPlan, BadWish
from awaitrounds.events import Stage
from awaitrounds.values import is_index


def steps_of(program):
    """The parts of the outermost seq of a program, or the program alone."""
    if program[0] == "seq":
        return program[1]
    return (program,)


def stage_of(company):
    """The steps and the events of a company."""
    return Stage([steps_of(program) for program in company])


def planned(company, plan):
    """A company with the awaits of a plan added."""
    if not stage_of(company).is_plan(plan):
        raise BadPlan(plan)
    return tuple([with_awaits(program, row) for program, row in zip(company, plan)])


def with_awaits(program, row):
    """A program with so many awaits ahead of each of its steps."""
    if not any(row):
        return program
    parts = []
    for step, many in zip(steps_of(program), row):
        if many > 0:
            parts.append(("await", many))
        parts.append(step)
    return ("seq", tuple(parts))


def check_event(stage, value):
    """Refuses any value that is not an event."""
    if not stage.is_event(value):
        raise BadEvent(value)


def round_with(stage, plan, event):
    """The round of an event with a plan."""
    return stage.base_and_rank(event)[0] + sum(plan[event[0]][:event[1] + 1])


def event_round(company, plan, event):
    """The round of an event with a plan."""
    stage = stage_of(company)
    check_event(stage, event)
    return round_with(stage, plan, event)


def is_ahead(company, plan, earlier, later):
    """Whether with a plan one event is logged ahead of another one."""
    stage = stage_of(company)
    check_event(stage, earlier)
    check_event(stage, later)
    first, second = round_with(stage, plan, earlier), round_with(stage, plan, later)
    if first != second:
        return first < second
    return stage.base_and_rank(earlier)[1] < stage.base_and_rank(later)[1]


def lag(company, wish):
    """By how many rounds the delay of the later event has to exceed that of the earlier one at least."""
    stage = stage_of(company)
    if not stage.is_wish(wish):
        raise BadWish(wish)
    return stage.lag(wish)


def stage_for(company, wishes):
    """The events of a company; refuses the first item of wishes that is not a wish."""
    stage = stage_of(company)
    for wish in wishes:
        if not stage.is_wish(wish):
            raise BadWish(wish)
    return stage


def first_steps(stage):
    """For each program the number of its first step, if the steps of all programs are numbered on; and their number."""
    numbers = [0]
    for steps in stage.courses:
        numbers.append(numbers[-1] + len(steps))
    return numbers


def solved(stage, wishes):
    """The least delays of all steps and None, or None and a ring of wishes, perhaps with other bounds behind them."""
    firsts = first_steps(stage)
    bounds = []
    for wish in wishes:
        source, target = [firsts[program] + step for program, step, number in wish]
        bounds.append((source, target, stage.lag(wish)))
    for first, behind in zip(firsts, firsts[1:]):
        bounds.extend([(step - 1, step, 0) for step in range(first + 1, behind)])
    return least_delays(firsts[-1], bounds)


def fewest_awaits(company, wishes):
    """The plan that fulfils all wishes with the least delay of each step, None if no plan does."""
    return least_plan(stage_for(company, wishes), wishes)


def least_plan(stage, wishes):
    """The plan that fulfils all wishes with the least delay of each step, None if no plan does."""
    delays = solved(stage, wishes)[0]
    if delays is None:
        return None
    firsts = first_steps(stage)
    return tuple([awaits_of(delays[first:behind]) for first, behind in zip(firsts, firsts[1:])])


def awaits_of(delays):
    """The awaits ahead of each step of a program from the delays of its steps."""
    return tuple([later - earlier for earlier, later in zip([0, *delays], delays)])


def contradiction(company, wishes):
    """Indexes of wishes that contradict each other, None if some plan fulfils all wishes."""
    ring = solved(stage_for(company, wishes), wishes)[1]
    if ring is None:
        return None
    # Only the wishes are shown: a bound behind them leads from a step to the next one of the same program.
    return tuple([index for index in ring if index < len(wishes)])


def shows_contradiction(company, wishes, value):
    """Whether any value is a ring of indexes of wishes that contradict each other."""
    stage = stage_for(company, wishes)
    if not isinstance(value, tuple) or value == ():
        return False
    if not all([is_index(index, len(wishes)) for index in value]):
        return False
    ring = [wishes[index] for index in value]
    if not all([leads_on(former, latter) for former, latter in zip([ring[-1], *ring], ring)]):
        return False
    return sum([stage.lag(wish) for wish in ring]) > 0


def leads_on(former, latter):
    """Whether the later event of one wish has a step that is not behind that of the earlier event of another one."""
    return former[1][0] == latter[0][0] and former[1][1] <= latter[0][1]
