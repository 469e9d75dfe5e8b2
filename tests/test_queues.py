"""Queues: callbacks that run step by step, against a small queue; and actions that are taken back."""

import copy
import random

from awaitrounds.company import company_entries, company_total
from awaitrounds.errors import BadCompany, BadProgram, EmptyQueue, NothingToUndo, TooMany
from awaitrounds.queues import Queue
from awaitrounds.rounds import finish
from tests.checks import ODD_VALUES, Case
from tests.drawing import drawn_companies, drawn_program, drawn_programs
from tests.small_queue import SteppedQueue

A, B, C = ("log", "a"), ("log", "b"), ("log", "c")
FAR = 10 ** 18


def seq(*parts):
    return ("seq", parts)


def wait(count):
    return ("await", count)


# A loop that never ends here, with words in each of its rounds, and callbacks that pile up.
ENDLESS = ("loop", FAR, seq(A, ("fork", seq(wait(2), B)), wait(1), ("fork", wait(30)), C, wait(1)))
BESIDE = ("join", (ENDLESS, ("loop", FAR, ("race", (seq(wait(3), A), seq(wait(2), B)))), ("loop", FAR, seq(wait(5), C))))


def state(queue):
    """What a queue tells of itself, as the state of a small queue."""
    return (queue.waiting(), queue.calls(), queue.log(), queue.finished(), queue.programs())


def whole_state(queue):
    return (len(queue), *state(queue))


def run_to_end(queue):
    """Runs all callbacks of a queue, of which there are not too many."""
    while queue.run(10000) == 10000:
        pass


class Look:
    """What may be done to a queue in a trial: drawn actions, the value that comes back or the error that is raised."""

    def __init__(self, source, error=None):
        self.source = source
        self.error = error
        self.seen = []

    def __call__(self, queue):
        self.seen.append(queue)
        act(self.source, queue, 10)
        if self.error is not None:
            raise self.error
        return self


def act(source, queue, many):
    """So many drawn actions; a queue that refuses one of them is left as it is."""
    for _ in range(many):
        chosen = source.randrange(7)
        if chosen == 0:
            queue.run(source.randint(0, 9))
        elif chosen == 1:
            if len(queue.programs()) < 40:
                queue.add(drawn_program(source, 6))
        elif chosen <= 3:
            if len(queue) > 0:
                queue.undo()
        elif queue.waiting() > 0:
            queue.call_next()


class Made(Case):
    def test_one_callback_starts_all(self):
        queue = Queue((A, seq(B, wait(1), A), wait(2), seq()))
        self.exact(whole_state(queue), (0, 1, 0, (), (), (A, seq(B, wait(1), A), wait(2), seq())))
        self.exact(queue.call_next(), ((0, "a"), (1, "b")))
        self.exact(whole_state(queue)[:-1], (1, 2, 1, ((0, "a"), (1, "b")), (0, 3)))

    def test_values_that_are_no_companies(self):
        for value in (*ODD_VALUES, 0, 1, (), A, (A,) * 9, [A], (wait(0),), (A, "a"), (A, [B]), (("join", ()),), {0: A}):
            if value != (A,):
                self.raises(BadCompany, {"value": value}, Queue, value)

    def test_the_very_value(self):
        value = [A]
        with self.assertRaises(BadCompany) as caught:
            Queue(value)
        self.assertIs(caught.exception.value, value)
        with self.assertRaises(BadProgram) as caught:
            Queue((A,)).add(value)
        self.assertIs(caught.exception.value, value)

    def test_eight_programs(self):
        queue = Queue((A,) * 8)
        self.exact([queue.call_next(), queue.waiting()], [tuple((index, "a") for index in range(8)), 0])

    def test_only_a_class_with_its_own_methods(self):
        for name in ("call_next", "run", "add", "undo", "waiting", "calls", "log", "finished", "programs", "trial",
                     "copy", "__len__", "__eq__", "__init__"):
            self.assertIn(name, vars(Queue))
        self.exact([Queue.__bases__, Queue.__module__], [(object,), "awaitrounds.queues"])


class Calling(Case):
    def test_each_await_is_a_callback(self):
        queue = Queue((seq(A, wait(3), B),))
        found = []
        while queue.waiting() > 0:
            found.append((queue.call_next(), queue.waiting()))
        self.exact(found, [(((0, "a"),), 1), ((), 1), ((), 1), (((0, "b"),), 0)])

    def test_empty_queue(self):
        queue = Queue((A,))
        queue.call_next()
        before = whole_state(queue)
        for _ in range(3):
            self.raises(EmptyQueue, {}, queue.call_next)
            self.exact(whole_state(queue), before)
        queue.undo()
        self.exact(queue.call_next(), ((0, "a"),))

    def test_finished(self):
        programs = (
            seq(("fork", seq(wait(5), A)), wait(1)), ("race", (wait(4), wait(2))), ("join", (wait(4), wait(2))),
            ("loop", 3, wait(2)), ("loop", 0, wait(1)), wait(FAR), seq(),
        )
        queue = Queue(programs)
        self.exact(queue.finished(), ())
        found = {}
        for _ in range(40):
            queue.call_next()
            for index in queue.finished():
                found.setdefault(index, queue.calls())
        self.exact(sorted(found), [0, 1, 2, 3, 4, 6])
        self.exact(sorted(found, key=lambda index: (found[index], index)), [4, 6, 0, 1, 2, 3])
        self.exact(queue.finished(), (0, 1, 2, 3, 4, 6))

    def test_against_the_small_queue(self):
        for company in drawn_companies(2401, 500, 8, 14):
            queue, small = Queue(company), SteppedQueue(company)
            while small.queue:
                self.exact(queue.call_next(), small.call_next())
                self.exact(state(queue), small.state())
            self.exact([queue.waiting(), queue.log()], [0, company_entries(company, 0, 2000)])
            self.exact(queue.finished(), tuple(range(len(company))))
            self.raises(EmptyQueue, {}, queue.call_next)

    def test_large_programs_against_the_small_queue(self):
        for program in drawn_programs(2402, 150, 40, 80):
            queue, small = Queue((program, A)), SteppedQueue((program, A))
            while small.queue:
                self.exact(queue.call_next(), small.call_next())
                self.exact([queue.waiting(), queue.finished()], [len(small.queue), tuple(sorted(small.ended))])
            self.exact(state(queue), small.state())

    def test_with_programs_added_in_between(self):
        source = random.Random(2403)
        for company in drawn_companies(2404, 300, 5, 14):
            queue, small = Queue(company), SteppedQueue(company)
            for _ in range(source.randint(5, 60)):
                if source.random() < 0.2 and len(small.programs) < 40:
                    program = drawn_program(source, source.randint(1, 14))
                    self.exact(queue.add(program), small.add(program))
                elif small.queue:
                    self.exact(queue.call_next(), small.call_next())
                self.exact(state(queue), small.state())

    def test_rounds_of_an_added_program_begin_with_its_callback(self):
        queue = Queue((seq(A, wait(1), A, wait(1), A),))
        queue.call_next()
        self.exact(queue.add(seq(B, wait(1), B)), 1)
        self.exact([queue.call_next() for _ in range(4)], [((0, "a"),), ((1, "b"),), ((0, "a"),), ((1, "b"),)])


class Running(Case):
    def test_limits(self):
        queue = Queue((seq(A, wait(3), B),))
        self.exact([queue.run(0), queue.run(1), queue.run(2), queue.run(5), queue.run(5)], [0, 1, 2, 1, 0])
        self.exact([len(queue), queue.calls(), queue.log()], [5, 4, ((0, "a"), (0, "b"))])

    def test_ten_thousand(self):
        queue = Queue((("loop", FAR, seq(A, wait(1))),))
        self.exact([queue.run(10000), queue.calls(), len(queue.log()), len(queue)], [10000, 10000, 10000, 1])
        self.exact([queue.run(10000), queue.calls(), queue.waiting()], [10000, 20000, 1])
        queue.undo()
        self.exact([queue.calls(), queue.log()], [10000, ((0, "a"),) * 10000])
        queue = Queue((wait(9999),))
        self.exact([queue.run(10000), queue.waiting(), queue.finished()], [10000, 0, (0,)])
        queue = Queue((wait(9998),))
        self.exact([queue.run(10000), queue.waiting(), queue.finished()], [9999, 0, (0,)])
        queue = Queue((wait(10000),))
        self.exact([queue.run(10000), queue.waiting(), queue.finished()], [10000, 1, ()])

    def test_as_many_calls(self):
        source = random.Random(2405)
        for company in drawn_companies(2406, 150, 4, 12):
            queue, other = Queue(company), Queue(company)
            while queue.waiting() > 0:
                many = queue.run(source.randint(0, 9))
                for _ in range(many):
                    other.call_next()
                self.exact(state(queue), state(other))
                self.exact(queue == other, True)
            self.exact(queue.run(3), 0)
            self.exact(queue == other, True)

    def test_one_action_each(self):
        queue = Queue((A,))
        for many in range(1, 4):
            queue.run(0)
            self.exact([len(queue), queue.waiting()], [many, 1])
        queue.run(7)
        self.exact([len(queue), queue.waiting(), queue.run(7), len(queue)], [4, 0, 0, 5])
        for wanted in ((4, 0), (3, 1), (2, 1), (1, 1), (0, 1)):
            self.exact([queue.undo(), (len(queue), queue.waiting())], [None, wanted])


class Adding(Case):
    def test_indexes(self):
        queue = Queue((A, B))
        self.exact([queue.add(C), queue.add(A), queue.waiting(), queue.programs()], [2, 3, 3, (A, B, C, A)])
        self.exact([queue.call_next() for _ in range(3)], [((0, "a"), (1, "b")), ((2, "c"),), ((3, "a"),)])
        self.exact([queue.add(B), queue.call_next(), queue.finished()], [4, ((4, "b"),), (0, 1, 2, 3, 4)])

    def test_forty(self):
        for company in ((A,), (A,) * 8):
            queue = Queue(company)
            self.exact([queue.add(B) for _ in range(40 - len(company))], list(range(len(company), 40)))
            before = whole_state(queue)
            for program in (A, ENDLESS, seq()):
                self.raises(TooMany, {"limit": 40}, queue.add, program)
            for value in (*ODD_VALUES, 0, (), wait(0)):
                self.raises(BadProgram, {"value": value}, queue.add, value)
            self.exact(whole_state(queue), before)
            queue.undo()
            self.exact([queue.add(C), queue.run(100), queue.finished()], [39, 41 - len(company), tuple(range(40))])
            self.raises(TooMany, {"limit": 40}, queue.add, A)

    def test_values_that_are_no_programs(self):
        queue = Queue((A, wait(2)))
        queue.run(1)
        before, kept = whole_state(queue), queue.copy()
        for value in (*ODD_VALUES, 0, 1, (), (A,), wait(0), wait(FAR + 1), ("loop", 2, A), ("seq", [A]), ("join", ())):
            self.raises(BadProgram, {"value": value}, queue.add, value)
            self.exact(whole_state(queue), before)
        self.exact(queue == kept, True)


class Undo(Case):
    def test_nothing_to_undo(self):
        queue = Queue((A,))
        self.raises(NothingToUndo, {}, queue.undo)
        queue.run(3)
        queue.undo()
        before = whole_state(queue)
        for _ in range(3):
            self.raises(NothingToUndo, {}, queue.undo)
            self.exact(whole_state(queue), before)
        self.exact(queue.call_next(), ((0, "a"),))

    def test_behind_a_run_of_no_callback(self):
        queue = Queue((seq(A, wait(1), B),))
        queue.call_next()
        before = whole_state(queue)
        queue.run(0)
        self.exact(whole_state(queue), (2, *before[1:]))
        queue.undo()
        self.exact(whole_state(queue), before)
        queue.undo()
        self.exact([queue.log(), queue.calls()], [(), 0])

    def test_an_added_program(self):
        queue = Queue((A,))
        queue.call_next()
        queue.add(seq(B, wait(1), B))
        queue.call_next()
        for wanted in ((2, 1, 1, ((0, "a"),), (0,), (A, seq(B, wait(1), B))), (1, 0, 1, ((0, "a"),), (0,), (A,)),
                       (0, 1, 0, (), (), (A,))):
            queue.undo()
            self.exact(whole_state(queue), wanted)
        self.exact([queue.add(C), queue.call_next(), queue.call_next()], [1, ((0, "a"),), ((1, "c"),)])

    def test_every_state_comes_back(self):
        source = random.Random(2407)
        for company in drawn_companies(2408, 250, 4, 12):
            queue = Queue(company)
            before = []
            for _ in range(60):
                chosen = source.randrange(8)
                if chosen <= 2 and before:
                    queue.undo()
                    self.exact(whole_state(queue), before.pop())
                    continue
                kept = whole_state(queue)
                if chosen == 3:
                    queue.run(source.randint(0, 5))
                elif chosen == 4 and len(queue.programs()) < 40:
                    queue.add(drawn_program(source, 8))
                elif queue.waiting() > 0:
                    queue.call_next()
                else:
                    continue
                before.append(kept)
                self.exact(len(queue), len(before))
            while before:
                queue.undo()
                self.exact(whole_state(queue), before.pop())
            self.raises(NothingToUndo, {}, queue.undo)
            self.exact(queue == Queue(company), True)

    def test_what_was_taken_back_leaves_no_trace(self):
        """The log is that of a small queue to which only was done what was not taken back."""
        source = random.Random(2409)
        for company in drawn_companies(2410, 200, 4, 12):
            queue = Queue(company)
            done = []
            for _ in range(50):
                chosen = source.randrange(6)
                if chosen <= 1 and done:
                    queue.undo()
                    done.pop()
                elif chosen == 2 and len(queue.programs()) < 40:
                    done.append(drawn_program(source, 8))
                    queue.add(done[-1])
                elif chosen == 3:
                    done.append(queue.run(source.randint(0, 4)))
                elif queue.waiting() > 0:
                    queue.call_next()
                    done.append(1)
            small = SteppedQueue(company)
            for item in done:
                if isinstance(item, tuple):
                    small.add(item)
                else:
                    for _ in range(item):
                        small.call_next()
            self.exact(state(queue), small.state())
            while small.queue:
                self.exact(queue.call_next(), small.call_next())
            self.exact(state(queue), small.state())


class Trial(Case):
    def drawn_queues(self, seed, many):
        source = random.Random(seed)
        for company in drawn_companies(seed + 1, many, 4, 12):
            queue = Queue(company)
            act(source, queue, 20)
            yield source, queue

    def check_as_before(self, queue, kept, before):
        """Everything is as it was in a copy that was made ahead, with the same actions to take back."""
        self.exact(whole_state(queue), before)
        self.exact(queue == kept, True)
        led, other = queue.copy(), kept.copy()
        while len(other) > 0:
            led.undo()
            other.undo()
            self.exact(whole_state(led), whole_state(other))
        self.raises(NothingToUndo, {}, led.undo)
        led, other = queue.copy(), kept.copy()
        run_to_end(led)
        run_to_end(other)
        self.exact(whole_state(led), whole_state(other))

    def test_what_look_returns(self):
        queue = Queue((A,))
        for value in (*ODD_VALUES, queue):
            self.assertIs(queue.trial(lambda given: value), value)
        self.exact(queue.trial(lambda given: (given.run(5), given.log(), len(given))), (1, ((0, "a"),), 1))
        self.exact(whole_state(queue), (0, 1, 0, (), (), (A,)))

    def test_this_very_queue(self):
        queue = Queue((A,))
        self.assertIs(queue.trial(lambda given: given), queue)
        self.exact(queue.trial(lambda given: queue.run(1) + len(given) + given.calls()), 3)
        self.exact(len(queue), 0)

    def test_drawn(self):
        for source, queue in self.drawn_queues(2411, 150):
            look = Look(source)
            kept, before = queue.copy(), whole_state(queue)
            self.assertIs(queue.trial(look), look)
            self.assertIs(look.seen[0], queue)
            self.exact(len(look.seen), 1)
            self.check_as_before(queue, kept, before)

    def test_errors_are_passed_on(self):
        errors = [ValueError("x"), KeyError(), EmptyQueue(), StopIteration(), KeyboardInterrupt(), SystemExit(2),
                  GeneratorExit(), RecursionError()]
        for index, (source, queue) in enumerate(self.drawn_queues(2413, 80)):
            error = errors[index % len(errors)]
            kept, before = queue.copy(), whole_state(queue)
            with self.assertRaises(error.__class__) as caught:
                queue.trial(Look(source, error))
            self.assertIs(caught.exception, error)
            self.check_as_before(queue, kept, before)

    def test_errors_of_the_queue(self):
        queue = Queue((A,))
        queue.run(2)
        kept, before = queue.copy(), whole_state(queue)

        def undo_all(given):
            while True:
                given.undo()

        def call_all(given):
            given.add(seq(B, wait(2), B))
            while True:
                given.call_next()

        def add_all(given):
            while True:
                given.add(seq(C))

        self.raises(NothingToUndo, {}, queue.trial, undo_all)
        self.check_as_before(queue, kept, before)
        self.raises(EmptyQueue, {}, queue.trial, call_all)
        self.check_as_before(queue, kept, before)
        self.raises(TooMany, {"limit": 40}, queue.trial, add_all)
        self.check_as_before(queue, kept, before)
        self.raises(BadProgram, {"value": [A]}, queue.trial, lambda given: given.add([A]))
        self.check_as_before(queue, kept, before)

    def test_trials_within(self):
        for source, queue in self.drawn_queues(2415, 100):
            kept, before = queue.copy(), whole_state(queue)

            def inner(given):
                act(source, given, 6)
                raise KeyError("inner")

            def outer(given):
                act(source, given, 8)
                between, copied = whole_state(given), given.copy()
                with self.assertRaises(KeyError):
                    given.trial(inner)
                self.check_as_before(given, copied, between)
                self.assertIs(given.trial(Look(source)).__class__, Look)
                self.check_as_before(given, copied, between)
                act(source, given, 8)
                return len(given)

            self.assertIsInstance(queue.trial(outer), int)
            self.check_as_before(queue, kept, before)

    def test_the_same_undone_and_done_otherwise(self):
        queue = Queue((seq(A, wait(1), A), B))
        queue.call_next()
        queue.add(C)
        kept, before = queue.copy(), whole_state(queue)

        def otherwise(given):
            given.undo()
            given.undo()
            given.add(seq(B, wait(3), B))
            given.run(2)
            return given.log()

        self.exact(queue.trial(otherwise), ((0, "a"), (1, "b"), (2, "b")))
        self.check_as_before(queue, kept, before)

    def test_copies_made_within(self):
        queue = Queue((seq(A, wait(1), A),))
        queue.call_next()

        def look(given):
            given.call_next()
            return given.copy()

        led = queue.trial(look)
        self.exact([len(led), led.log(), led.calls()], [2, ((0, "a"), (0, "a")), 2])
        self.exact([len(queue), queue.log(), led == queue], [1, ((0, "a"),), False])
        led.undo()
        self.exact(led == queue, True)


class Copies(Case):
    def test_led_apart(self):
        source = random.Random(2417)
        for company in drawn_companies(2418, 150, 4, 12):
            queue = Queue(company)
            act(source, queue, 20)
            before = whole_state(queue)
            twin = queue.copy()
            self.exact([whole_state(twin), twin == queue, twin.__class__], [before, True, Queue])
            act(source, twin, 20)
            self.exact(whole_state(queue), before)
            third = twin.copy()
            between = whole_state(twin)
            act(source, queue, 20)
            while len(queue) > 0:
                queue.undo()
            self.exact([whole_state(twin), whole_state(third)], [between, between])
            act(source, third, 5)
            self.exact(whole_state(twin), between)

    def test_the_same_actions_to_take_back(self):
        queue = Queue((seq(A, wait(2), B),))
        queue.run(2)
        queue.add(C)
        queue.run(0)
        queue.call_next()
        twin = queue.copy()
        while len(queue) > 0:
            self.exact(whole_state(twin), whole_state(queue))
            twin.undo()
            queue.undo()
        self.exact([whole_state(twin), len(twin)], [whole_state(queue), 0])
        self.raises(NothingToUndo, {}, twin.undo)


    def test_programs_that_are_added_to_one_alone(self):
        queue, like = Queue((A, wait(2))), Queue((A, wait(2)))
        twin = queue.copy()
        self.exact([twin.add(B), twin == queue, queue == like], [2, False, True])
        self.exact([queue.run(1), queue.add(C), queue == twin], [1, 2, False])
        self.exact([like.run(1), like.add(C), queue == like, len(twin)], [1, 2, True, 1])
        twin.undo()
        self.exact([queue == like, twin == Queue((A, wait(2)))], [True, True])
        queue.trial(lambda given: (given.undo(), given.add(A), given.add(B), given.run(3)))
        self.exact([queue == like, queue.trial(lambda given: (given.add(B), given == like)[1])], [True, False])
        self.exact(queue == like, True)


class Equal(Case):
    COMPANY = (seq(A, wait(3), B), wait(2))

    def queue(self, *actions):
        """A queue with actions: a number of callbacks to run, a program to add, None to take back."""
        made = Queue(self.COMPANY)
        for action in actions:
            if action is None:
                made.undo()
            elif isinstance(action, int):
                made.run(action)
            else:
                made.add(action)
        return made

    def check(self, one, other, wanted):
        self.exact([one == other, other == one, one != other, other != one], [wanted, wanted, not wanted, not wanted])

    def test_how_callbacks_were_run_does_not_matter(self):
        one = self.queue()
        for _ in range(3):
            one.call_next()
        for actions in ((3,), (1, 2), (2, 1, 0), (0, 0, 3), (1, 1, 1)):
            self.check(one, self.queue(*actions), True)
        for actions in ((), (2,), (4,), (1, 1), (3, 1)):
            self.check(one, self.queue(*actions), False)

    def test_beyond_the_end(self):
        end = self.queue(100).calls()
        self.exact(end, 6)
        self.check(self.queue(5), self.queue(100), False)
        self.check(self.queue(100), self.queue(end), True)
        self.check(self.queue(100), self.queue(end, 5, 0, 3), True)
        self.check(self.queue(100, A), self.queue(end, 9, A), True)

    def test_the_sequence_matters(self):
        for one, other in (((2, A), (A, 2)), ((1, A, 1), (2, A)), ((A, B), (B, A)), ((A,), (A, A)), ((A,), ()),
                           ((1, A, 1, B), (1, A, B, 1)), ((A, 100), (100, A, 100))):
            self.check(self.queue(*one), self.queue(*other), False)
        for one, other in (((1, A, 1), (1, A, 1)), ((A, 2), (A, 1, 0, 1)), ((1, 1, A, B), (2, A, B))):
            self.check(self.queue(*one), self.queue(*other), True)

    def test_the_same_state_on_another_way(self):
        one, other = Queue((seq(),)), Queue((seq(),))
        one.call_next()
        one.add(wait(1))
        other.add(wait(1))
        other.call_next()
        self.exact(state(one), state(other))
        self.check(one, other, False)

    def test_steps_that_were_taken_back(self):
        self.check(self.queue(2, None), self.queue(), True)
        self.check(self.queue(1, A, None, 1), self.queue(2), True)
        self.check(self.queue(A, None, B), self.queue(B), True)
        self.check(self.queue(A, None, B), self.queue(A), False)
        self.check(self.queue(2, A, 3, None, None, None, 1, B), self.queue(1, B), True)
        self.check(self.queue(1, 0, None, A, 4, None), self.queue(1, A), True)
        self.check(self.queue(100, 0, None, None), self.queue(), True)
        self.check(self.queue(2, A, None, 1, A), self.queue(2, A, 1), False)

    def test_companies(self):
        self.check(Queue((A, B)), Queue((A, B)), True)
        self.check(Queue((A, B)), Queue((B, A)), False)
        self.check(Queue((A,)), Queue((seq(A),)), False)
        self.check(Queue((A,)), Queue((A, A)), False)
        one = Queue((A,))
        one.add(B)
        self.check(one, Queue((A, B)), False)
        one.undo()
        self.check(one, Queue((A,)), True)

    def test_nothing_else(self):
        queue = self.queue(1)
        for value in (*ODD_VALUES, 0, 1, (), self.COMPANY, queue.log(), state(queue), queue.programs(), object(), Queue):
            self.check(queue, value, False)
        self.check(queue, queue, True)

    def test_the_number_of_actions_does_not_matter(self):
        one, other = self.queue(3), self.queue(1, 0, 2)
        self.check(one, other, True)
        self.exact([len(one), len(other)], [1, 3])
        one.undo()
        other.undo()
        self.check(one, other, False)

    def test_drawn(self):
        """Equal exactly if the callbacks and programs that were not taken back are the same sequence."""
        source = random.Random(2419)
        made = []
        for _ in range(120):
            queue, done = Queue(self.COMPANY), []
            for _ in range(source.randint(0, 6)):
                chosen = source.randrange(5)
                if chosen == 0 and done:
                    queue.undo()
                    done.pop()
                elif chosen == 1:
                    done.append([source.choice([A, B])])
                    queue.add(done[-1][0])
                else:
                    done.append([None] * queue.run(source.randint(0, 2)))
            made.append((queue, [item for items in done for item in items]))
        equal = 0
        for one, sequence in made:
            for other, opposite in made:
                self.exact([one == other, one != other], [sequence == opposite, sequence != opposite])
                equal += sequence == opposite
        self.assertGreater(equal, 300)

    def test_length_and_equality_change_nothing(self):
        queue, other = self.queue(1, A, 2), self.queue(1, A, 2)
        before = whole_state(queue)
        for _ in range(3):
            self.exact([len(queue), queue == other, queue.waiting(), queue.calls()], [3, True, *before[1:3]])
        self.exact(whole_state(queue), before)


class Far(Case):
    """Loops of 10 ** 18 bodies beside each other, over several thousand callbacks."""

    COMPANY = (BESIDE, seq(wait(7), ENDLESS), ("fork", BESIDE), ("loop", FAR, wait(1)))

    def test_against_the_small_queue(self):
        queue, small = Queue(self.COMPANY), SteppedQueue(self.COMPANY)
        for _ in range(6000):
            self.exact(queue.call_next(), small.call_next())
        self.exact(state(queue), small.state())
        self.exact(len(queue), 6000)

    def test_the_log_of_the_company(self):
        queue = Queue(self.COMPANY)
        queue.run(6000)
        log = queue.log()
        self.assertGreater(len(log), 700)
        self.exact(log, company_entries(self.COMPANY, 0, len(log)))

    def test_six_hundred_taken_back(self):
        queue = Queue(self.COMPANY)
        queue.run(3000)
        kept, states = queue.copy(), []
        for at in range(600):
            states.append((len(queue), queue.waiting(), queue.calls(), len(queue.log()), queue.log()[-20:]))
            if at % 40 == 5 and len(queue.programs()) < 40:
                queue.add(seq(A, ENDLESS))
            elif at % 7 == 0:
                queue.run(at % 5)
            else:
                queue.call_next()
        led = queue.copy()
        for wanted in reversed(states):
            queue.undo()
            self.exact((len(queue), queue.waiting(), queue.calls(), len(queue.log()), queue.log()[-20:]), wanted)
        self.exact([queue == kept, whole_state(queue) == whole_state(kept), led == kept], [True, True, False])
        queue.run(500)
        kept.run(500)
        self.exact(state(queue), state(kept))

    def test_trials_and_copies(self):
        queue = Queue(self.COMPANY)
        queue.run(4000)
        before = whole_state(queue)
        twin = queue.copy()
        self.exact(queue.trial(lambda given: (given.undo(), given.run(10000), given.calls())), (None, 10000, 10000))
        self.exact(whole_state(queue), before)
        self.exact([queue.run(700), twin.run(700), queue == twin], [700, 700, True])

    def test_long_awaits(self):
        queue = Queue((seq(wait(FAR), A), ("race", (wait(FAR), seq(wait(5000), B)))))
        self.exact([queue.run(10000), queue.run(5000), queue.waiting(), queue.finished()], [10000, 5000, 3, ()])
        self.exact([queue.call_next(), queue.waiting()], [((1, "b"),), 2])
        self.exact([queue.log(), queue.finished()], [((1, "b"),), (1,)])


class Logs(Case):
    def test_whole_logs(self):
        for company in drawn_companies(2420, 250, 8, 20):
            queue = Queue(company)
            run_to_end(queue)
            self.exact(len(queue.log()), company_total(company))
            self.exact(queue.log()[:2000], company_entries(company, 0, 2000))
            last = max(finish(program) for program in company)
            self.assertGreater(queue.calls(), last)

    def test_whatever_was_undone(self):
        source = random.Random(2421)
        for company in drawn_companies(2422, 150, 4, 16):
            queue = Queue(company)
            while queue.waiting() > 0:
                many = source.randint(1, 4)
                for _ in range(many):
                    queue.run(source.randint(0, 3))
                for _ in range(source.randint(0, many - 1) if source.random() < 0.4 else 0):
                    queue.undo()
                queue.trial(Look(source))
                log = queue.log()
                self.exact(log, company_entries(company, 0, len(log)) if len(log) <= 2000 else log)
            self.exact(len(queue.log()), company_total(company))

    def test_arguments_stay_as_they_were(self):
        company, program = (seq(A, wait(2)), B), seq(("fork", A), wait(1))
        kept = copy.deepcopy((company, program))
        queue = Queue(company=company)
        self.exact([queue.add(program=program), queue.run(limit=3), queue.trial(look=len)], [2, 3, 2])
        self.exact((company, program), kept)
        self.exact(queue.programs(), (*company, program))
