"""Observations: the order of all events with a plan, and the plan behind an order."""

from awaitrounds.errors import BadObservation, BadPlan, TooMany
from awaitrounds.wishes import least_plan, round_with, stage_of

MOST_EVENTS = 400


def small_stage(company):
    """The events of a company, with all of them looked up; refuses a company with too many."""
    stage = stage_of(company)
    if stage.total() > MOST_EVENTS:
        raise TooMany(MOST_EVENTS)
    stage.look_up_all()
    return stage


def events_of(company):
    """The ascending tuple of all events of a company."""
    return tuple(sorted(small_stage(company).known))


def observed(company, plan):
    """The tuple of all events of a company in the order of its log with a plan."""
    stage = small_stage(company)
    if not stage.is_plan(plan):
        raise BadPlan(plan)
    placed = [(round_with(stage, plan, event), stage.base_and_rank(event)[1], event) for event in stage.known]
    return tuple([event for _, _, event in sorted(placed)])


def explained(company, observation):
    """The plan with an observed order and the least delay of each step, None if no plan has this order."""
    stage = small_stage(company)
    if not is_observation(stage, observation):
        raise BadObservation(observation)
    # The order of all events holds exactly if each one is ahead of the next one.
    return least_plan(stage, list(zip(observation, observation[1:])))


def is_observation(stage, value):
    """Whether any value is a tuple with each event once."""
    if not isinstance(value, tuple) or len(value) != stage.total():
        return False
    if not all([stage.is_event(event) for event in value]):
        return False
    return len(set(value)) == len(value)
