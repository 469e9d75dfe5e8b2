"""Rounds: the rules one by one, and loops that are too long to be run."""

import random

from awaitrounds.rounds import finish, last_round, marked, words_in
from tests.checks import Case
from tests.drawing import drawn_body
from tests.small_queue import marked_rows, run_rows

A, B, C = ("log", "a"), ("log", "b"), ("log", "c")
FAR = 10 ** 18


def seq(*parts):
    return ("seq", parts)


def wait(count):
    return ("await", count)


class Single(Case):
    def rows(self, program, many):
        return [marked(program, at) for at in range(many)]

    def test_log(self):
        self.exact([finish(A), last_round(A)], [0, 0])
        self.exact(self.rows(A, 3), [("a", None), (None,), (None,)])

    def test_await(self):
        self.exact([finish(wait(2)), last_round(wait(2))], [2, None])
        self.exact(self.rows(wait(2), 4), [(), (), (None,), (None,)])
        self.exact([marked(wait(FAR), at) for at in (FAR - 1, FAR, FAR + 1)], [(), (None,), (None,)])

    def test_seq(self):
        self.exact([finish(seq()), last_round(seq()), marked(seq(), 0), marked(seq(), 9)], [0, None, (None,), (None,)])
        program = seq(A, wait(1), B, wait(2), C)
        self.exact([finish(program), last_round(program)], [3, 3])
        self.exact(self.rows(program, 5), [("a",), ("b",), (), ("c", None), (None,)])

    def test_fork(self):
        program = ("fork", seq(A, wait(2), B))
        self.exact([finish(program), last_round(program)], [0, 2])
        self.exact(self.rows(program, 4), [("a", None), (None,), ("b", None), (None,)])

    def test_words_behind_the_gap_stand_behind_what_follows(self):
        early = ("race", (wait(1), seq(wait(1), A)))
        self.exact(self.rows(seq(early, B, wait(1), C), 4), [(), ("b", "a"), ("c", None), (None,)])
        again = seq(("race", (seq(), A)), ("race", (seq(), B)))
        self.exact(marked(again, 0), (None, "b", "a"))

    def test_join(self):
        program = ("join", (seq(A, wait(2)), B, seq(wait(1), C, wait(1)), seq(wait(1), A)))
        self.exact([finish(program), last_round(program)], [2, 1])
        self.exact(self.rows(program, 4), [("a", "b"), ("c", "a"), (None,), (None,)])

    def test_join_has_the_gap_of_the_last_part_with_the_greatest_finish(self):
        one = seq(wait(1), A, ("fork", seq(wait(1), A)))
        other = ("race", (seq(wait(1), B), seq(wait(1), C)))
        self.exact(self.rows(("join", (one, other, wait(1), C)), 3), [("c",), ("a", "b", "c", None), ("a", None)])
        self.exact(self.rows(("join", (one, other, C)), 3), [("c",), ("a", "b", None, "c"), ("a", None)])

    def test_race(self):
        program = ("race", (seq(A, wait(2)), seq(wait(1), B), seq(wait(1), C), wait(1)))
        self.exact([finish(program), last_round(program)], [1, 1])
        self.exact(self.rows(program, 3), [("a",), ("b", None, "c"), (None,)])

    def test_race_has_the_gap_of_the_first_part_with_the_least_finish(self):
        self.exact(marked(("race", (A, B, C)), 0), ("a", None, "b", "c"))
        self.exact(marked(("race", (seq(wait(1), A), B, C)), 0), ("b", None, "c"))
        self.exact(marked(("race", (seq(wait(1), A), B, C)), 1), ("a", None))

    def test_finishes_of_parts(self):
        parts = (wait(4), wait(2), seq(wait(1), wait(1)), wait(3))
        self.exact([finish(("join", parts)), finish(("race", parts)), finish(seq(*parts))], [4, 2, 11])
        self.exact(finish(("join", (wait(FAR), wait(FAR - 1)))), FAR)
        self.exact(finish(("race", (wait(FAR), wait(FAR - 1)))), FAR - 1)

    def test_last_rounds(self):
        self.exact(last_round(("race", (wait(1), seq(wait(5), A), seq(wait(3), B)))), 5)
        self.exact(last_round(("join", (wait(9), seq(wait(5), A), B))), 5)
        self.exact(last_round(seq(("fork", seq(wait(9), A)), wait(2), B)), 9)
        self.exact(last_round(seq(wait(2), ("fork", seq(wait(9), A)), wait(2), B)), 11)
        self.exact(last_round(seq(wait(FAR), wait(FAR), ("fork", wait(FAR)), A)), 2 * FAR)
        self.exact([last_round(("fork", wait(3))), last_round(("join", (wait(3), seq())))], [None, None])

    def test_words_in(self):
        program = ("race", (seq(A, wait(1)), seq(wait(1), B)))
        self.exact([words_in(program, at) for at in range(3)], [("a",), ("b",), ()])


class Loops(Case):
    def test_no_bodies(self):
        program = ("loop", 0, seq(A, wait(2), B))
        self.exact([finish(program), last_round(program)], [0, None])
        self.exact([marked(program, 0), marked(program, 2)], [(None,), (None,)])
        self.exact(marked(seq(B, program, C), 0), ("b", "c", None))

    def test_one_body(self):
        body = ("race", (seq(wait(2), A), seq(wait(2), B, wait(1), C)))
        for at in range(6):
            self.exact(marked(("loop", 1, body), at), marked(body, at))

    def test_far(self):
        program = ("loop", FAR, seq(A, wait(3), B))
        self.exact([finish(program), last_round(program)], [3 * FAR, 3 * FAR])
        rounds = (0, 1, 2, 3, 3 * (FAR // 2), 3 * FAR - 3, 3 * FAR - 1, 3 * FAR, 3 * FAR + 1)
        found = [marked(program, at) for at in rounds]
        wanted = [("a",), (), (), ("b", "a"), ("b", "a"), ("b", "a"), (), ("b", None), (None,)]
        self.exact(found, wanted)

    def test_far_without_words(self):
        program = seq(("loop", FAR, wait(6)), A)
        self.exact([finish(program), last_round(program)], [6 * FAR, 6 * FAR])
        self.exact([marked(program, 6 * FAR - 1), marked(program, 6 * FAR)], [(), ("a", None)])
        self.exact(last_round(("loop", FAR, wait(6))), None)

    def test_words_of_later_rounds_overlap(self):
        body = seq(("fork", seq(wait(30), A)), wait(1), B)
        program = ("loop", FAR, body)
        self.exact([finish(program), last_round(program)], [FAR, FAR + 29])
        found = [marked(program, at) for at in (0, 1, 29, 30, 31, FAR - 1, FAR, FAR + 1, FAR + 29, FAR + 30)]
        wanted = [
            (), ("b",), ("b",), ("a", "b"), ("a", "b"), ("a", "b"), ("a", "b", None), ("a", None), ("a", None), (None,),
        ]
        self.exact(found, wanted)

    def test_words_behind_the_gap_come_in_the_reverse_order_of_the_bodies(self):
        body = ("race", (wait(1), seq(wait(1), A, wait(1), B, wait(1), C)))
        program = ("loop", FAR, body)
        found = [marked(program, at) for at in (1, 2, 3, FAR // 2, FAR - 1, FAR, FAR + 1, FAR + 2, FAR + 3)]
        wanted = [
            ("a",), ("a", "b"), ("a", "b", "c"), ("a", "b", "c"), ("a", "b", "c"), (None, "a", "b", "c"),
            (None, "b", "c"), (None, "c"), (None,),
        ]
        self.exact(found, wanted)

    def test_several_far_loops(self):
        one, other = ("loop", FAR, seq(A, wait(5))), ("loop", FAR - 1, seq(B, wait(5)))
        join, race = ("join", (one, other)), ("race", (one, other))
        self.exact([finish(join), finish(race), finish(seq(one, other))], [5 * FAR, 5 * FAR - 5, 10 * FAR - 5])
        self.exact([marked(race, 5 * FAR - 10), marked(race, 5 * FAR - 5)], [("a", "b"), ("a", None)])
        self.exact([marked(join, 5 * FAR - 5), marked(join, 5 * FAR)], [("a",), (None,)])
        self.exact([marked(seq(one, other), 5 * FAR - 5), marked(seq(one, other), 5 * FAR)], [("a",), ("b",)])
        self.exact(last_round(seq(one, other)), 10 * FAR - 10)

    def test_huge_rounds(self):
        program = ("loop", FAR, seq(A, wait(3)))
        self.exact([marked(program, 10 ** 40), words_in(program, 10 ** 40)], [(None,), ()])
        self.exact(marked(A, 10 ** 40), (None,))


class FarAgainstShort(Case):
    """A loop of 10 ** 18 bodies does near its ends and in its middle what a short loop does, which is run."""

    SHORT = 70

    def bodies(self):
        source = random.Random(601)
        return [drawn_body(source, 16, 1) for _ in range(60)] + [
            ("race", (wait(1), seq(wait(6), A, wait(24), B))),
            seq(("fork", seq(wait(30), A)), wait(1), ("fork", seq(wait(29), B)), ("race", (seq(), seq(wait(29), C)))),
        ]

    def test_rounds(self):
        for body in self.bodies():
            step, short = finish(body), ("loop", self.SHORT, body)
            rows = marked_rows(short, step * self.SHORT + 40)
            far = ("loop", FAR, body)
            self.exact(finish(far), step * FAR)
            for at in range(step * (self.SHORT - 1)):
                self.exact(marked(far, at), rows[at])
            moved = step * (FAR - self.SHORT)
            for at in range(31 * step, len(rows)):
                self.exact(marked(far, moved + at), rows[at])
            moved = step * (FAR // 2)
            for at in range(31 * step, 33 * step):
                self.exact(marked(far, moved + at), rows[at])

    def test_last_round(self):
        for body in self.bodies():
            rows = run_rows(("loop", self.SHORT, body))[1]
            wanted = None if not rows else max(rows) + finish(body) * (FAR - self.SHORT)
            self.exact(last_round(("loop", FAR, body)), wanted)


class BeyondTheLimits(Case):
    """Callers may go somewhat beyond a limit, and no error is raised for it."""

    def test_bodies_that_finish_at_once(self):
        body = ("race", (A, seq(B, wait(1), C)))
        program = ("loop", 3, body)
        self.exact([finish(program), last_round(program)], [0, 1])
        self.exact([marked(program, at) for at in range(3)], marked_rows(program, 2))

    def test_long_bodies(self):
        bodies = (
            seq(wait(7), A), seq(*[A] * 13, wait(1)), seq(("fork", seq(wait(31), A)), wait(1)),
            ("race", (wait(2), seq(wait(45), A, B))),
        )
        for body in bodies:
            program = ("loop", 4, body)
            self.exact([marked(program, at) for at in range(60)], marked_rows(program, 59))

    def test_many_parts_and_levels(self):
        program = seq(*[seq(A, wait(1))] * 40)
        for _ in range(30):
            program = ("join", (program,) + (B,) * 6)
        self.exact([finish(program), last_round(program)], [40, 39])
        self.exact([len(marked(program, 0)), marked(program, 3)], [181, ("a",)])

    def test_no_parts_and_no_awaits(self):
        for program in (("join", ()), ("race", ()), wait(0)):
            self.exact([finish(program), last_round(program), marked(program, 0)], [0, None, (None,)])

    def test_loops_within_loops(self):
        inner = ("loop", 2, seq(A, wait(1), ("fork", seq(wait(3), B))))
        program = ("loop", 3, seq(inner, ("race", (wait(1), seq(wait(1), C)))))
        self.exact([finish(program), last_round(program)], [9, 11])
        self.exact([marked(program, at) for at in range(15)], marked_rows(program, 14))

    def test_large_counts(self):
        program = seq(wait(10 ** 40), A, ("loop", 10 ** 40, wait(6)))
        self.exact([finish(program), last_round(program)], [7 * 10 ** 40, 10 ** 40])
