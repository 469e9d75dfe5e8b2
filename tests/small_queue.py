"""A small queue that runs programs callback by callback, as the definitions say, for the tests alone.

It knows nothing of the rules for rounds: a part of a program is a call with what follows it.
"""

from collections import deque

GAP = None


class SmallQueue:
    """One queue, first in, first out; it notes what is logged in which round."""

    def __init__(self):
        self.waiting = deque()
        self.at = 0
        self.rows = {}

    def put(self, callback):
        self.waiting.append((self.at + 1, callback))

    def log(self, item):
        self.rows.setdefault(self.at, []).append(item)

    def run_all(self, first, most=100000):
        """Runs a first callback in round 0 and then all others; the rows of the log."""
        first()
        for _ in range(most):
            if not self.waiting:
                return self.rows
            self.at, callback = self.waiting.popleft()
            callback()
        raise AssertionError("the run is too long")


def nothing():
    """What follows a detached program."""


def start(queue, program, follow):
    """Runs a program within the callback that runs now; follow is called when it finishes."""
    kind = program[0]
    if kind == "log":
        queue.log(program[1])
        follow()
    elif kind == "await":
        start_await(queue, program[1], follow)
    elif kind == "seq":
        start_seq(queue, program[1], 0, follow)
    elif kind == "fork":
        start(queue, program[1], nothing)
        follow()
    elif kind == "join":
        start_join(queue, program[1], follow)
    elif kind == "race":
        start_race(queue, program[1], follow)
    elif kind == "loop":
        start_loop(queue, program[2], program[1], follow)
    else:
        raise AssertionError(program)


def start_await(queue, count, follow):
    if count == 0:
        follow()
    else:
        queue.put(lambda: start_await(queue, count - 1, follow))


def start_seq(queue, parts, index, follow):
    if index == len(parts):
        follow()
    else:
        start(queue, parts[index], lambda: start_seq(queue, parts, index + 1, follow))


def start_loop(queue, body, count, follow):
    if count == 0:
        follow()
    else:
        start(queue, body, lambda: start_loop(queue, body, count - 1, follow))


def start_join(queue, parts, follow):
    left = [len(parts)]

    def one_finished():
        left[0] -= 1
        if left[0] == 0:
            follow()

    for part in parts:
        start(queue, part, one_finished)


def start_race(queue, parts, follow):
    finished = []

    def one_finished():
        finished.append(True)
        if len(finished) == 1:
            follow()

    for part in parts:
        start(queue, part, one_finished)


class SteppedQueue:
    """A small queue of programs that runs one callback at a time, and can only go on."""

    def __init__(self, company):
        self.queue = deque()
        self.words = []
        self.ended = []
        self.programs = []
        self.calls = 0
        self.put(lambda: [self.begin(index, program) for index, program in enumerate(company)])
        self.programs.extend(company)

    def put(self, callback):
        self.queue.append(callback)

    def begin(self, index, program):
        start(Noting(self, lambda word: (index, word)), program, lambda: self.ended.append(index))

    def log(self, item):
        self.words.append(item)

    def call_next(self):
        before = len(self.words)
        self.calls += 1
        self.queue.popleft()()
        return tuple(self.words[before:])

    def add(self, program):
        index = len(self.programs)
        self.programs.append(program)
        self.put(lambda: self.begin(index, program))
        return index

    def state(self):
        """How many callbacks wait and have run, the log, the programs that have finished, and all programs."""
        return (len(self.queue), self.calls, tuple(self.words), tuple(sorted(self.ended)), tuple(self.programs))


def follower(queue, horizon, note=GAP):
    """What logs a note in each round from the finish up to the horizon, and then ends."""
    def each_round():
        queue.log(note)
        if queue.at < horizon:
            queue.put(each_round)
    return each_round


def run_rows(program):
    """The finish of a program, and the words of its rounds, without anything that follows it."""
    queue = SmallQueue()
    finishes = []
    rows = queue.run_all(lambda: start(queue, program, lambda: finishes.append(queue.at)))
    assert len(finishes) == 1
    return finishes[0], rows


def marked_rows(program, horizon):
    """The marked words of the rounds from 0 up to the horizon, found by a follower."""
    queue = SmallQueue()
    rows = queue.run_all(lambda: start(queue, program, follower(queue, horizon)))
    return [tuple(rows.get(at, ())) for at in range(horizon + 1)]


def company_rows(programs, horizon):
    """The log of the rounds of several programs, each with a follower that logs its index."""
    queue = SmallQueue()

    def first():
        for index, program in enumerate(programs):
            start(queue, program, follower(queue, horizon, index))

    rows = queue.run_all(first)
    return [tuple(rows.get(at, ())) for at in range(horizon + 1)]


class Noting:
    """A view of a queue that logs a note in the place of each word."""

    def __init__(self, queue, note):
        self.queue = queue
        self.note = note

    @property
    def at(self):
        return self.queue.at

    def put(self, callback):
        self.queue.put(callback)

    def log(self, word):
        self.queue.log(self.note(word))


def in_order(rows):
    """All that was logged, each with its round, in the order of the log."""
    return [(at, item) for at in sorted(rows) for item in rows[at]]


def company_log(company):
    """The log of a company: the tuples (round, (program, word))."""
    queue = SmallQueue()

    def first():
        for index, program in enumerate(company):
            start(Noting(queue, lambda word, index=index: (index, word)), program, nothing)

    return in_order(queue.run_all(first))


def marked_log(program, behind, beside):
    """The test log of a program: words and the marks 0 and 1."""
    queue = SmallQueue()

    def follow():
        if behind is not None:
            start_await(queue, behind, lambda: queue.log(0))

    def first():
        start(queue, program, follow)
        if beside is not None:
            start_await(queue, beside, lambda: queue.log(1))

    return [item for at, item in in_order(queue.run_all(first))]


def parts_of(program):
    """The steps of a program."""
    return program[1] if program[0] == "seq" else (program,)


def event_log(company, plan):
    """The log of a company with a plan: the tuples (round, (program, step, number), word)."""
    queue = SmallQueue()
    seen = {}

    def note(program, step):
        def noted(word):
            number = seen.get((program, step), 0)
            seen[program, step] = number + 1
            return (program, step, number), word
        return noted

    def start_step(program, step):
        steps = parts_of(company[program])
        if step < len(steps):
            view = Noting(queue, note(program, step))
            start_await(queue, plan[program][step],
                        lambda: start(view, steps[step], lambda: start_step(program, step + 1)))

    def first():
        for program in range(len(company)):
            start_step(program, 0)

    return [(at, event, word) for at, (event, word) in in_order(queue.run_all(first))]
