"""Counts and entries: the edges, wrong numbers, and logs that are too long to be run."""

import random

from awaitrounds.company import as_program
from awaitrounds.counts import count_before, entries, entry, total
from awaitrounds.errors import NoEntry, TooMany
from awaitrounds.programs import is_program
from awaitrounds.rounds import finish, last_round, words_in
from awaitrounds.wishes import planned
from tests.checks import ODD_VALUES, Case
from tests.drawing import drawn_body, drawn_programs, drawn_stretch, stretched
from tests.small_queue import in_order, run_rows

A, B, C = ("log", "a"), ("log", "b"), ("log", "c")
FAR = 10 ** 18


def seq(*parts):
    return ("seq", parts)


def wait(count):
    return ("await", count)


SILENT = (seq(), wait(7), wait(FAR), ("fork", wait(1)), ("loop", 0, seq(A, wait(1))), ("loop", FAR, wait(3)),
          ("join", (seq(), wait(2))), ("race", (wait(2), ("loop", 0, seq(B, wait(1))))))


class Few(Case):
    def test_no_words_at_all(self):
        for program in SILENT:
            self.exact([total(program), count_before(program, 0), count_before(program, 10 ** 40)], [0, 0, 0])
            self.exact([entries(program, 0, 0), entries(program, 0, 2000), entries(program, 5, 9)], [(), (), ()])
            for number in (0, 1, -1, 10 ** 40):
                self.raises(NoEntry, {"number": number}, entry, program, number)

    def test_one_word(self):
        self.exact([total(A), count_before(A, 0), count_before(A, 1), count_before(A, 10 ** 40)], [1, 0, 1, 1])
        self.exact([entry(A, 0), entries(A, 0, 1), entries(A, 0, 0), entries(A, 1, 1)], [(0, "a"), ("a",), (), ()])
        self.raises(NoEntry, {"number": 1}, entry, A, 1)

    def test_rounds_come_one_after_the_other(self):
        program = seq(("fork", seq(wait(3), A, wait(1), B)), wait(3), C, ("race", (wait(1), seq(wait(1), B), C)))
        self.exact(total(program), 5)
        self.exact([count_before(program, at) for at in range(6)], [0, 0, 0, 0, 3, 5])
        self.exact([entry(program, number) for number in range(5)], [(3, "a"), (3, "c"), (3, "c"), (4, "b"), (4, "b")])
        self.exact(entries(program, 0, 5), ("a", "c", "c", "b", "b"))

    def test_words_of_parts_beside_each_other(self):
        parts = (seq(A, wait(1), A), seq(B, wait(1), B), C)
        for kind in ("join", "race"):
            self.exact([total((kind, parts)), count_before((kind, parts), 1)], [5, 3])
            self.exact(entries((kind, parts), 0, 9), ("a", "b", "c", "a", "b"))

    def test_words_behind_the_gap_count(self):
        program = seq(("race", (seq(), seq(A, wait(2), A))), B, wait(2), C)
        self.exact([total(program), count_before(program, 2)], [4, 2])
        self.exact([entry(program, number) for number in range(4)], [(0, "b"), (0, "a"), (2, "c"), (2, "a")])

    def test_a_loop_of_no_bodies_between_words(self):
        program = seq(A, ("loop", 0, seq(B, wait(2))), C)
        self.exact([total(program), entries(program, 0, 5)], [2, ("a", "c")])


class WrongNumbers(Case):
    def test_values_of_every_kind(self):
        for program in (A, seq(A, wait(1), B), ("loop", FAR, seq(A, wait(1))), seq()):
            for value in (*ODD_VALUES, (0,), [0], "0", {0: 0}):
                self.raises(NoEntry, {"number": value}, entry, program, value)

    def test_the_very_value(self):
        for value in ([0], {"a": [1]}, "0", (0, [1])):
            with self.assertRaises(NoEntry) as caught:
                entry(A, value)
            self.assertIs(caught.exception.number, value)

    def test_the_last_number_and_the_one_behind_it(self):
        for many in (1, 2, 1000, FAR):
            program = ("loop", many, seq(A, wait(4)))
            self.exact(entry(program, many - 1), (4 * many - 4, "a"))
            self.raises(NoEntry, {"number": many}, entry, program, many)
            self.raises(NoEntry, {"number": -1}, entry, program, -1)
            self.raises(NoEntry, {"number": 10 ** 40}, entry, program, 10 ** 40)


class Ranges(Case):
    def test_2000_and_2001(self):
        loop = ("loop", FAR, seq(A, wait(1), B))
        for start in (0, 1, FAR, 2 * FAR - 2000):
            self.exact(len(entries(loop, start, start + 2000)), 2000)
        for program in (loop, A, seq()):
            for start, stop in ((0, 2001), (5, 2006), (FAR, FAR + 2001), (0, 10 ** 40), (10 ** 40 - 2001, 10 ** 40)):
                self.raises(TooMany, {"limit": 2000}, entries, program, start, stop)
            self.exact(entries(program, 10 ** 40 - 2000, 10 ** 40), ())

    def test_as_far_as_there_are_some(self):
        loop = ("loop", FAR, seq(A, wait(1), B))
        self.exact(entries(loop, 2 * FAR - 3, 2 * FAR + 9), ("b", "a", "b"))
        self.exact(entries(loop, 2 * FAR - 1, 2 * FAR), ("b",))
        self.exact([entries(loop, 2 * FAR, 2 * FAR + 9), entries(loop, 7, 7)], [(), ()])
        self.exact(entries(seq(A, wait(FAR), B, wait(FAR), C), 0, 2000), ("a", "b", "c"))

    def test_several_words_of_a_round(self):
        program = ("loop", FAR, seq(A, B, C, wait(6), A))
        self.exact(entries(program, 0, 9), ("a", "b", "c", "a", "a", "b", "c", "a", "a"))
        for start in range(9):
            whole = entries(program, 4 * 10 ** 17, 4 * 10 ** 17 + 30)
            self.exact(entries(program, 4 * 10 ** 17 + start, 4 * 10 ** 17 + 20), whole[start:20])


class Drawn(Case):
    """Against the small queue, callback by callback."""

    def check(self, program):
        log = in_order(run_rows(program)[1])
        self.exact(total(program), len(log))
        self.exact([entry(program, number) for number in range(len(log))], log)
        self.raises(NoEntry, {"number": len(log)}, entry, program, len(log))
        for at in range(max([at for at, word in log], default=0) + 3):
            self.exact(count_before(program, at), len([item for item in log if item[0] < at]))
        words = tuple(word for at, word in log)
        for start, stop in ((0, 2000), (0, 1), (1, 4), (len(log) // 2, len(log)), (len(log) // 3, len(log) // 2)):
            self.exact(entries(program, start, stop), words[start:stop])

    def test_small_programs(self):
        for program in drawn_programs(901, 1500, 1, 16):
            self.check(program)

    def test_large_programs(self):
        for program in drawn_programs(902, 700, 20, 80):
            self.check(program)

    def test_companies_as_programs_and_planned_ones(self):
        programs = drawn_programs(903, 240, 1, 14)
        for at in range(0, 240, 8):
            company = tuple(programs[at:at + 8])
            self.check(as_program(company))
            plan = tuple((index % 3,) * len(part[1] if part[0] == "seq" else "1") for index, part in enumerate(company))
            for program in planned(company, plan):
                self.check(program)


class Far(Case):
    """Loops of 10 ** 18 bodies."""

    def test_against_a_sum_over_the_words_of_a_body(self):
        source = random.Random(904)
        for _ in range(150):
            body = drawn_body(source, 14, 1)
            step, rows = run_rows(body)
            rounds = [at for at, word in in_order(rows)]
            start, many = source.choice([0, 1, 5, FAR]), source.choice([FAR, FAR - 1, 10 ** 17 + 3])
            program = seq(wait(start), ("loop", many, body)) if start else ("loop", many, body)
            self.exact(total(program), many * len(rounds))
            for at in self.some_rounds(source, start, many * step):
                # Of a word in round own, the bodies from 0 on log it in the rounds own, own + step ..
                wanted = sum(min(many, max(0, -((start + own - at) // step))) for own in rounds)
                self.exact(count_before(program, at), wanted)
                self.check_round(program, at, wanted)

    def some_rounds(self, source, start, length):
        near = [start + at for at in (0, 1, 2, 7, 30, 31, 60)]
        middle = [start + source.randrange(length) for _ in range(4)]
        end = [start + length + at for at in (-31, -7, -2, -1, 0, 1, 6, 29, 30, 31, FAR)]
        return near + middle + end

    def check_round(self, program, at, before):
        """The entries of a round have the numbers behind those that were logged before."""
        words = words_in(program, at)
        self.exact([entry(program, before + index) for index in range(len(words))], [(at, word) for word in words])
        self.exact(entries(program, before, before + len(words)), words)

    def test_several_in_a_row(self):
        one, other = ("loop", FAR, seq(A, wait(2), B, wait(3))), ("loop", FAR - 5, seq(wait(1), C))
        program = seq(A, one, other, one, B)
        self.exact(total(program), 2 + 2 * 2 * FAR + FAR - 5)
        self.exact(count_before(program, 5 * FAR + 1), 1 + 2 * FAR)
        self.exact(count_before(program, 5 * FAR + 1 + 10), 1 + 2 * FAR + 10)
        self.exact(entry(program, 1 + 2 * FAR + 10 ** 17), (5 * FAR + 10 ** 17 + 1, "c"))
        behind = 1 + 2 * FAR + FAR - 5
        self.exact(entries(program, behind - 1, behind + 3), ("c", "a", "b", "a"))
        self.exact(entry(program, behind), (6 * FAR - 5, "a"))
        self.exact(entry(program, behind + 2 * 10 ** 17 + 1), (6 * FAR - 5 + 5 * 10 ** 17 + 2, "b"))
        self.exact([entry(program, total(program) - 1), finish(program)], [(11 * FAR - 5, "b"), 11 * FAR - 5])

    def test_side_by_side(self):
        parts = (("loop", FAR, seq(A, wait(3))), ("loop", FAR, seq(B, wait(5))), ("loop", FAR, seq(wait(2), C)))
        for kind in ("join", "race"):
            program = (kind, parts)
            self.exact(total(program), 3 * FAR)
            for at in (30, 30 * 10 ** 16 + 30, 2 * FAR - 20):
                before = at // 3 + at // 5 + at // 2 - 1
                self.exact(count_before(program, at), before)
                self.exact(entries(program, before, before + 6), ("a", "b", "c", "c", "a", "c"))
            # From 2 * 10 ** 18 on the third one has ended, from 3 * 10 ** 18 on the first one.
            self.exact(count_before(program, 2 * FAR + 10), -((-2 * FAR - 10) // 3) + (2 * FAR + 10) // 5 + FAR)
            self.exact(entry(program, 3 * FAR - 1), (5 * FAR - 5, "b"))
            self.exact(entry(program, 2 * FAR + 3 * FAR // 5), (3 * FAR, "b"))

    def test_loops_that_go_on_behind_a_race(self):
        program = seq(("race", (wait(1), ("loop", FAR, seq(A, wait(1))))), ("loop", FAR, seq(B, wait(2))), C)
        self.exact(total(program), 2 * FAR + 1)
        self.exact(entries(program, 0, 8), ("a", "b", "a", "a", "b", "a", "a", "b"))
        self.exact(entry(program, FAR + FAR // 2 + 1), (FAR + 3, "b"))
        self.exact(entry(program, 2 * FAR), (2 * FAR + 1, "c"))

    def test_awaits_between(self):
        program = seq(*[wait(FAR), A] * 6)
        self.exact([entry(program, number) for number in range(6)], [((k + 1) * FAR, "a") for k in range(6)])
        self.exact([count_before(program, 3 * FAR), count_before(program, 3 * FAR + 1)], [2, 3])

    def test_against_loops_that_are_run(self):
        """With 60 * k more rounds of each loop side by side, the middle grows and the end moves."""
        source = random.Random(905)
        more = 60 * 10 ** 16
        for _ in range(30):
            program = drawn_stretch(source, 150, source.randint(1, 5))
            far = stretched(program, more)
            self.assertTrue(is_program(program) and is_program(far))
            log = in_order(run_rows(program)[1])
            turn = len([at for at, word in log if 60 <= at < 120])
            self.exact(total(far), len(log) + turn * 10 ** 16)
            for number, (at, word) in enumerate(log):
                if at < 120:
                    self.exact(entry(far, number), (at, word))
                if at >= 60:
                    self.exact(entry(far, number + turn * 10 ** 16), (at + more, word))
            for at in range(60, (last_round(program) or 0) + 3):
                before = len([item for item in log if item[0] < at])
                self.exact(count_before(far, at + more), before + turn * 10 ** 16)
            words = tuple(word for at, word in log)
            early = len([at for at, word in log if at < 60])
            for start in (early, len(log) - 9, len(log) - 1):
                moved = start + turn * 10 ** 16
                if 0 <= start and early <= start:
                    self.exact(entries(far, moved, moved + 2000), words[start:start + 2000])
