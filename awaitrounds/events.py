"""Events: the entries of the steps of a company, the rounds and the ranks that they have."""

from awaitrounds.courses import course_of
from awaitrounds.logs import Log
from awaitrounds.values import is_index, is_number


class Stage:
    """The steps of the programs of a company; of events that were asked for it keeps the base round and the rank."""

    def __init__(self, programs):
        self.courses = [[course_of(step) for step in steps] for steps in programs]
        self.logs = [[Log([course]) for course in row] for row in self.courses]
        self.known = {}

    def total(self):
        """How many events there are."""
        return sum([log.total() for row in self.logs for log in row])

    def look_up_all(self):
        """Looks up all events; all at once are found in far less time than one after the other."""
        for program, row in enumerate(self.logs):
            for step, log in enumerate(row):
                for number, (at, strand) in enumerate(log.between(0, log.total())):
                    event = (program, step, number)
                    self.known[event] = self.placed(event, at, strand)

    def is_plan(self, value):
        """Whether any value is a plan."""
        if not isinstance(value, tuple) or len(value) != len(self.courses):
            return False
        return all([is_row(row, len(steps)) for row, steps in zip(value, self.courses)])

    def is_event(self, value):
        """Whether any value is an event."""
        if not isinstance(value, tuple) or len(value) != 3:
            return False
        program, step, number = value
        if not is_index(program, len(self.courses)) or not is_index(step, len(self.courses[program])):
            return False
        return self.logs[program][step].has(number)

    def is_wish(self, value):
        """Whether any value is a wish."""
        if not isinstance(value, tuple) or len(value) != 2:
            return False
        return self.is_event(value[0]) and self.is_event(value[1]) and value[0] != value[1]

    def base_and_rank(self, event):
        """The base round of an event, and a tuple whose order is that of the ranks."""
        if event not in self.known:
            program, step, number = event
            at, strand = self.logs[program][step].located(number)
            self.known[event] = self.placed(event, at, strand)
        return self.known[event]

    def placed(self, event, at, strand):
        """The base round and the rank of an event from its round and its strand in the course of its step."""
        program, step, number = event
        course = self.courses[program][step]
        start = sum([earlier.finish for earlier in self.courses[program][:step]])
        if at >= course.finish and strand >= len(course.ahead):
            return start + at, (program, 1, -step, number)
        return start + at, (program, 0, step, number)

    def lag(self, wish):
        """By how many rounds the delay of the later event has to exceed that of the earlier one at least."""
        earlier, earlier_rank = self.base_and_rank(wish[0])
        later, later_rank = self.base_and_rank(wish[1])
        return earlier - later + (1 if later_rank < earlier_rank else 0)


def is_row(value, many):
    """Whether any value is a tuple of so many integers from 0."""
    return isinstance(value, tuple) and len(value) == many and all([is_number(number) for number in value])
