"""Equality: programs that are the same or not, the rounds of changes, and tests that tell programs apart."""

import random

from awaitrounds.company import company_entries, company_total
from awaitrounds.equality import changes, first_difference, same, shows_teller, teller, test_entry
from awaitrounds.programs import is_program
from awaitrounds.rounds import finish, last_round, marked
from tests.checks import ODD_VALUES, Case
from tests.drawing import drawn_body, drawn_program, drawn_programs, drawn_stretch, near, stretched
from tests.small_queue import marked_log, marked_rows, run_rows

A, B, C = ("log", "a"), ("log", "b"), ("log", "c")
FAR = 10 ** 18


def seq(*parts):
    return ("seq", parts)


def wait(count):
    return ("await", count)


def loop(count, *parts):
    return ("loop", count, seq(*parts))


def end_of(program):
    """A round behind the finish and the last word, as a run shows."""
    end, rows = run_rows(program)
    return max(end, max(rows, default=0)) + 1


def run_difference(one, other):
    """The first difference, found by the small queue."""
    horizon = max(end_of(one), end_of(other))
    for at, (row, counterpart) in enumerate(zip(marked_rows(one, horizon), marked_rows(other, horizon))):
        if row != counterpart:
            alike = [item == opposite for item, opposite in zip(row, counterpart)]
            return at, (alike + [False]).index(False)
    return None


class Pairs(Case):
    """Checks a pair in both orders: all four functions agree with the first difference that is wanted."""

    def check(self, one, other, wanted):
        for first, second in ((one, other), (other, one)):
            self.exact([first_difference(first, second), same(first, second)], [wanted, wanted is None])
            found = teller(first, second)
            if wanted is None:
                self.exact(found, None)
                self.exact(shows_teller(first, second, ((0, 0), 0)), False)
                continue
            self.exact([shows_teller(first, second, found), shows_teller(second, first, found)], [True, True])
            (behind, beside), number = found
            self.assertNotEqual(repr(test_entry(one, (behind, beside), number)),
                                repr(test_entry(other, (behind, beside), number)))
            self.assertTrue(all(mark is None or (isinstance(mark, int) and mark >= 0) for mark in (behind, beside)))
            self.assertTrue(isinstance(number, int) and number >= 0)


class Few(Pairs):
    def test_each_is_the_same_as_itself(self):
        for program in (A, wait(1), seq(), ("fork", A), ("race", (A, B)), loop(FAR, A, wait(6)), loop(0, A, wait(1))):
            self.check(program, program, None)

    def test_written_otherwise(self):
        pairs = (
            (A, seq(A)), (seq(), ("fork", wait(9))), (seq(), loop(0, A, wait(1))), (wait(5), seq(wait(2), wait(3))),
            (wait(3), ("join", (wait(1), wait(3), wait(2)))), (wait(1), ("race", (wait(1), wait(3)))),
            (("fork", A), A), (("join", (A, B)), seq(A, B)), (("race", (seq(), A)), ("race", (seq(), ("fork", A)))),
            (seq(wait(1), A), seq(("fork", seq(wait(1), A)), wait(1))), (loop(1, A, wait(1)), seq(A, wait(1))),
        )
        for one, other in pairs:
            self.check(one, other, None)

    def test_first_differences(self):
        pairs = (
            (A, B, (0, 0)), (A, seq(), (0, 0)), (A, seq(A, A), (0, 1)), (seq(), wait(1), (0, 0)), (A, wait(1), (0, 0)),
            (seq(A, wait(1)), A, (0, 1)), (wait(2), wait(3), (2, 0)), (wait(FAR), wait(FAR - 1), (FAR - 1, 0)),
            (seq(A, B), ("race", (A, B)), (0, 1)), (seq(A, wait(1), B), seq(A, B, wait(1)), (0, 1)),
            (seq(wait(3), A, B, C), seq(wait(3), A, C, B), (3, 1)), (("fork", wait(1)), wait(1), (0, 0)),
            (seq(("fork", seq(wait(4), A)), wait(2)), seq(wait(2), ("fork", seq(wait(3), A))), (4, 0)),
        )
        for one, other, wanted in pairs:
            self.check(one, other, wanted)

    def test_the_gap_alone(self):
        early = ("race", (wait(1), seq(wait(1), A)))
        late = ("join", (wait(1), seq(wait(1), A)))
        self.check(early, late, (1, 0))
        self.check(seq(early, wait(3)), seq(late, wait(3)), None)
        # Behind the finish, words may stand ahead of the gap or behind it.
        before = ("race", (seq(("fork", seq(wait(5), A)), wait(1)), wait(1)))
        behind = ("race", (wait(1), seq(wait(5), A)))
        self.check(before, behind, (5, 0))
        self.check(seq(before, wait(5)), seq(behind, wait(5)), None)

    def test_rounds_of_words_alone(self):
        """Neither the order of the words nor the mark behind the program shows these."""
        for one, other, at in ((seq(A, wait(1), B), seq(A, wait(2), B), 1), (seq(wait(1), A), seq(wait(2), A), 1)):
            fork, opposite = seq(("fork", one), wait(9)), seq(("fork", other), wait(9))
            self.check(fork, opposite, (at, 0))
            self.check(seq(("fork", one)), seq(("fork", other)), (at, 0))

    def test_a_finish_that_nothing_but_the_round_shows(self):
        self.check(wait(7), wait(8), (7, 0))
        self.check(seq(A, wait(FAR)), seq(A, wait(FAR), wait(1)), (FAR, 0))


class Drawn(Pairs):
    """Pairs that are near each other, against the marked words of all rounds that the small queue finds."""

    def pairs(self, seed, many, least, most):
        source = random.Random(seed)
        for _ in range(many):
            one = drawn_program(source, source.randint(least, most))
            other = one
            for _ in range(source.randint(1, 3)):
                other = near(source, other)
            yield one, other

    def test_near_pairs(self):
        alike = 0
        for one, other in [*self.pairs(1101, 1200, 1, 14), *self.pairs(1102, 250, 20, 50)]:
            wanted = run_difference(one, other)
            alike += wanted is None and one != other
            self.check(one, other, wanted)
        self.assertGreater(alike, 300)

    def test_any_pairs(self):
        programs = drawn_programs(1103, 300, 1, 6)
        for one, other in zip(programs, programs[1:]):
            self.check(one, other, run_difference(one, other))

    def test_one_in_the_place_of_the_other(self):
        """Programs that are the same can be exchanged within any other program and company."""
        source = random.Random(1104)
        for one, other in self.pairs(1105, 300, 1, 12):
            if same(one, other):
                around = drawn_program(source, 8)
                wholes = [("seq", (part, around, part)) for part in (one, other)]
                self.exact(same(*wholes), True)
                wholes = [("race", (around, part, ("join", (part, around)))) for part in (one, other)]
                self.exact(same(*wholes), True)
                many = company_total((one, around, one))
                self.exact(company_total((other, around, one)), many)
                found = [company_entries((part, around, one), 0, min(many, 2000)) for part in (one, other)]
                self.exact(found[0], found[1])


class FarPairs(Pairs):
    """Loops of 10 ** 18 bodies."""

    def bodies(self, seed, many):
        source = random.Random(seed)
        drawn = [drawn_body(source, 12, 1) for _ in range(many)]
        return [("race", (wait(1), seq(wait(1), A, wait(29), B))), seq(("fork", seq(A, wait(3), B)), wait(2)), *drawn]

    def test_the_same_loops_written_otherwise(self):
        source = random.Random(1106)
        for body in self.bodies(1107, 60):
            whole = ("loop", FAR, body)
            for cut in (0, 1, 7, FAR // 2, FAR - 1, source.randrange(FAR)):
                self.check(whole, seq(("loop", cut, body), ("loop", FAR - cut, body)), None)
            self.check(whole, seq(body, body, ("loop", FAR - 2, body)), None)
            self.check(whole, seq(body, ("loop", FAR - 3, body), seq(body, body)), None)
            self.check(whole, seq(("loop", FAR // 3, body), *[("loop", FAR // 9, body)] * 6, body), None)
            for turns in (2, 5):
                several = seq(*[body] * turns)
                if is_program(("loop", 2, several)):
                    self.check(whole, ("loop", FAR // turns, several), None)
                    self.check(whole, seq(several, ("loop", FAR // turns - 1, several)), None)

    def test_loops_of_another_length(self):
        for body in self.bodies(1108, 40):
            step, few = run_rows(body)[0], 70
            at, index = run_difference(("loop", few, body), ("loop", few + 1, body))
            moved = at + (FAR - 1 - few) * step
            self.check(("loop", FAR - 1, body), ("loop", FAR, body), (moved, index))
            self.check(seq(("loop", FAR - 1, body), body), ("loop", FAR, body), None)

    def test_a_difference_far_within(self):
        one, other = loop(FAR, A, wait(6)), loop(FAR, A, wait(5))
        self.check(seq(loop(FAR, B, wait(3)), one), seq(loop(FAR, B, wait(3)), other), (3 * FAR + 5, 0))
        for at, added in ((6 * FAR // 2, A), (6 * FAR // 2 + 3, B), (6 * FAR - 6, B), (6 * FAR - 1, A)):
            changed = ("race", (one, seq(*[wait(FAR)] * (at // FAR), *([wait(at % FAR)] if at % FAR else []), added)))
            self.check(one, changed, (at, 1 if at % 6 == 0 else 0))

    def test_loops_side_by_side(self):
        one, other = loop(FAR, wait(5), A), loop(FAR, wait(6), A)
        self.check(("join", (one, other)), ("join", (other, one)), None)
        # The first round from 5 * 10 ** 18 on in which the second one logs.
        self.check(("race", (one, other)), ("race", (other, one)), (5 * FAR + 4, 0))
        self.check(("race", (one, other)), ("join", (one, other)), (5 * FAR, 1))
        self.check(seq(("fork", one), other), seq(("join", (one, other))), None)
        named = loop(FAR, wait(6), B)
        self.check(("join", (one, named)), ("join", (named, one)), (30, 0))

    def test_steps_that_meet_only_each_60_rounds(self):
        beside = tuple(loop(FAR, wait(step), A) for step in (3, 4, 5))
        for kind in ("join", "race"):
            self.check((kind, (*beside, ("fork", seq(wait(60), B)))), (kind, beside), (60, 3) if kind == "join" else
                       (0, 0))
        spoken = tuple(loop(FAR, wait(step), ("log", word)) for step, word in ((4, "a"), (5, "b"), (6, "c")))
        self.check(("join", spoken), ("join", (spoken[1], spoken[0], spoken[2])), (20, 0))
        self.check(("join", spoken), ("join", (spoken[0], spoken[2], spoken[1])), (30, 0))
        self.check(seq(wait(7), ("join", spoken)), seq(wait(7), ("join", (spoken[2], *spoken[:2]))), (19, 0))

    def test_against_loops_that_are_run(self):
        """What happens to the first difference with 60 and 120 rounds more shows what happens far away."""
        source = random.Random(1109)
        near_by, far_away, none = 0, 0, 0
        for _ in range(120):
            one = drawn_stretch(source, 120, source.randint(1, 3))
            other = near(source, near(source, near(source, one)))
            found = [run_difference(stretched(one, more), stretched(other, more)) for more in (0, 60, 120)]
            moved = 60 * 10 ** 16
            pair = stretched(one, moved), stretched(other, moved)
            if found[0] == found[1] == found[2]:
                self.check(*pair, found[0])
                none += found[0] is None
                near_by += found[0] is not None
            elif None not in found and [at - found[0][0] for at, index in found] == [0, 60, 120]:
                self.check(*pair, (found[0][0] + moved, found[2][1]))
                far_away += 1
        self.assertTrue(near_by > 20 and far_away > 10 and none > 20, (near_by, far_away, none))


class Changes(Case):
    def check(self, program, horizon):
        found = changes(program)
        self.assertIsInstance(found, tuple)
        self.assertLessEqual(len(found), 1000)
        self.exact(found[0], 0)
        self.assertTrue(all(isinstance(at, int) and not isinstance(at, bool) for at in found))
        self.exact(sorted(set(found)), list(found))
        rows = marked_rows(program, horizon)
        for index, start in enumerate(found):
            stop = found[index + 1] if index + 1 < len(found) else horizon + 1
            for at in range(start, min(stop, horizon + 1) - 60):
                self.exact(rows[at + 60], rows[at])
        return found

    def test_few(self):
        for program in (A, seq(), wait(1), wait(100), seq(A, wait(100), B), ("fork", seq(wait(70), A)), seq(*[A] * 12)):
            self.check(program, 250)
        self.check(seq(A, wait(60), A), 250)
        self.check(seq(A, wait(60), B), 250)
        self.check(seq(*[A, wait(60)] * 6), 500)
        self.check(seq(wait(61), ("race", (wait(60), seq(wait(61), A, wait(120), B)))), 500)

    def test_loops(self):
        self.check(loop(100, A, wait(3)), 500)
        self.check(seq(loop(100, A, wait(3)), loop(0, A, wait(1)), loop(90, wait(4), B)), 900)
        self.check(("race", (loop(100, A, wait(3)), loop(70, wait(6), B))), 600)
        self.check(loop(200, ("race", (wait(1), seq(wait(30), A)))), 500)

    def test_drawn(self):
        source = random.Random(1110)
        for program in drawn_programs(1111, 200, 1, 40):
            self.check(program, max(200, end_of(program) + 130))
        for _ in range(60):
            program = drawn_stretch(source, 150, source.randint(1, 6))
            self.check(program, end_of(program) + 130)

    def test_many_nodes(self):
        logs = [seq(*[wait(61), ("log", "abcdefghijkl"[index])] * 6) for index in range(5)]
        program = seq(*logs, *[wait(90), A] * 3)
        self.exact(is_program(program), True)
        self.check(program, end_of(program) + 130)
        self.check(("join", (program,) * 3), end_of(program) + 130)

    def test_far(self):
        """Around each round of changes and in between, for loops of 10 ** 18 bodies."""
        source = random.Random(1112)
        for _ in range(40):
            program = stretched(drawn_stretch(source, 150, source.randint(1, 6)), 60 * 10 ** 16)
            program = seq(program, ("loop", FAR, drawn_body(source, 8, 3)), wait(FAR), B)
            found = changes(program)
            self.assertLessEqual(len(found), 1000)
            self.exact([found[0], sorted(set(found))], [0, list(found)])
            last = max(finish(program), last_round(program)) + 200
            for start, stop in zip(found, (*found[1:], last)):
                if stop - start > 60:
                    places = {0, 1, 2, 59, 60, stop - start - 61, source.randrange(stop - start - 60)}
                    for at in [start + place for place in places if 0 <= place < stop - start - 60]:
                        self.exact(marked(program, at), marked(program, at + 60))


class Tests(Case):
    """Test entries against the small queue with both marks."""

    def check(self, program, test):
        log = marked_log(program, *test)
        self.exact([test_entry(program, test, number) for number in range(len(log))], log)
        self.exact([test_entry(program, test, len(log)), test_entry(program, test, 10 ** 40)], [None, None])

    def test_few(self):
        for program in (A, seq(), wait(3), seq(A, wait(1), B), ("race", (A, B)), ("fork", seq(wait(2), A))):
            for behind in (None, 0, 1, 2, 5):
                for beside in (None, 0, 1, 2, 5):
                    self.check(program, (behind, beside))

    def test_drawn(self):
        source = random.Random(1113)
        for program in drawn_programs(1114, 600, 1, 20):
            for _ in range(3):
                behind, beside = [source.choice([None, 0, 1, 2, 3, 7, 20]) for _ in range(2)]
                self.check(program, (behind, beside))

    def test_without_marks(self):
        self.exact([test_entry(seq(A, B), (None, None), number) for number in range(3)], ["a", "b", None])
        self.exact(test_entry(seq(), (None, None), 0), None)

    def test_marks_of_one_round(self):
        self.exact([test_entry(seq(), (4, 4), number) for number in range(3)], [0, 1, None])
        self.exact([test_entry(wait(1), (3, 3), number) for number in range(3)], [1, 0, None])
        early = ("race", (seq(), A))
        self.exact([test_entry(early, (0, 0), number) for number in range(4)], [0, "a", 1, None])

    def test_huge_numbers_of_awaits(self):
        huge = 10 ** 40 - 1
        program = seq(A, wait(1), B)
        self.exact([test_entry(program, (huge, None), number) for number in range(4)], ["a", "b", 0, None])
        self.exact([test_entry(program, (None, huge), number) for number in range(4)], ["a", "b", 1, None])
        self.exact([test_entry(program, (huge, huge), number) for number in range(2, 5)], [1, 0, None])
        self.exact([test_entry(A, (huge, huge), number) for number in range(1, 4)], [0, 1, None])
        self.exact([test_entry(program, (huge - 1, huge), number) for number in range(2, 5)], [0, 1, None])

    def test_far(self):
        program = loop(FAR, A, wait(3))
        self.exact([test_entry(program, (0, 3 * FAR), FAR + number) for number in range(3)], [0, 1, None])
        self.exact([test_entry(program, (0, 3 * FAR - 1), FAR + number) for number in range(3)], [1, 0, None])
        self.exact([test_entry(program, (None, 3 * 10 ** 17), number) for number in (10 ** 17, 10 ** 17 + 1)], ["a", 1])
        self.exact([test_entry(program, (None, 3 * 10 ** 17 - 1), number) for number in (10 ** 17, FAR)], [1, "a"])


class ShowsTeller(Case):
    ONE, OTHER = ("race", (seq(A, wait(1)), seq(wait(1), B))), ("join", (seq(A, wait(1)), seq(wait(1), B)))

    def test_values_of_every_kind(self):
        for value in (*ODD_VALUES, 0, 1, (), (0,), (0, 1), ((0, None),), ((0, None), 1, 1), [(0, None), 1]):
            self.exact(shows_teller(self.ONE, self.OTHER, value), False)

    def test_values_of_every_kind_within(self):
        self.exact(shows_teller(self.ONE, self.OTHER, ((0, None), 1)), True)
        self.exact(shows_teller(self.ONE, self.OTHER, ((0, 9), 1)), True)
        for value in (*ODD_VALUES, 10 ** 40, (), (1,), [1], "1"):
            self.exact(shows_teller(self.ONE, self.OTHER, ((0, None), value)), False)
            self.exact(shows_teller(self.ONE, self.OTHER, (value, 1)), False)
            if value != 10 ** 40 and value is not None:
                self.exact(shows_teller(self.ONE, self.OTHER, ((0, value), 1)), False)
                self.exact(shows_teller(self.ONE, self.OTHER, ((value, 1), 1)), False)
        bad = ([0, None], (0,), (0, None, None), {0: None}, (-1, None), (False, None), (0, True), ("0", None), ())
        for test in bad:
            self.exact(shows_teller(self.ONE, self.OTHER, (test, 1)), False)

    def test_each_small_value(self):
        """A value shows it exactly where the small queue gives unlike entries."""
        pairs = ((self.ONE, self.OTHER), (wait(1), wait(2)), (seq(A, wait(1), A), seq(A, wait(2), A)), (A, seq(A, A)),
                 (A, seq(A)), (("race", (A, B)), seq(A, B)))
        for one, other in pairs:
            for behind in (None, 0, 1, 2):
                for beside in (None, 0, 1, 2, 3):
                    logs = [marked_log(program, behind, beside) + [None] * 9 for program in (one, other)]
                    for number in range(6):
                        wanted = repr(logs[0][number]) != repr(logs[1][number])
                        self.exact(shows_teller(one, other, ((behind, beside), number)), wanted)
