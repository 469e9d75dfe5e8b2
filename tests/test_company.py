"""Companies: what is one, and the entries of its log."""

import random

from awaitrounds.company import (
    as_program, company_entries, company_entry, company_number, company_total, is_company,
)
from awaitrounds.counts import count_before, entries, entry, total
from awaitrounds.errors import NoEntry, NoProgram, TooMany
from awaitrounds.programs import is_program
from awaitrounds.rounds import finish, last_round, marked, words_in
from awaitrounds.wishes import planned
from tests.checks import ODD_VALUES, Case, nested
from tests.drawing import drawn_companies, drawn_stretch, stretched
from tests.small_queue import company_log, in_order, run_rows

A, B, C = ("log", "a"), ("log", "b"), ("log", "c")
FAR = 10 ** 18


def seq(*parts):
    return ("seq", parts)


def wait(count):
    return ("await", count)


class IsCompany(Case):
    def test_numbers_of_programs(self):
        for many in range(12):
            self.exact(is_company((A,) * many), 1 <= many <= 8)
        self.exact(is_company((seq(), wait(FAR), ("loop", FAR, wait(6)), ("race", (A, B)))), True)

    def test_values_of_every_kind(self):
        for value in (*ODD_VALUES, 0, 1, (), A, B, ((),), "abc", wait(1)):
            self.exact(is_company(value), value == (A,))

    def test_values_of_every_kind_within(self):
        for value in (*ODD_VALUES, 0, 1, (), "a", wait(0), ("log", "A"), ("join", ()), ("loop", 1, A), (A,)):
            for whole in ((value,), (A, value), (value, A), (A,) * 7 + (value,)):
                self.exact(is_company(whole), False)

    def test_lists_in_the_place_of_tuples(self):
        for value in ([A], [A, B], (["log", "a"],), (A, list(B)), {A: 1}, {"a": A}, (("seq", [A]),), [(A,)]):
            self.exact(is_company(value), False)

    def test_limits_hold_for_each_program(self):
        large = seq(*[seq(*[A] * 12) for _ in range(6)])
        self.exact([is_company((large,) * 8), is_company((seq(large, *[A] * 3),))], [True, False])
        loops = seq(*[("loop", FAR, wait(1))] * 8)
        self.exact([is_company((loops,) * 8), is_company((loops, seq(loops, ("loop", 1, wait(1)))))], [True, False])
        deep = nested(lambda core: ("fork", core), 11, A)
        self.exact([is_company((deep,) * 8), is_company((deep, ("fork", deep)))], [True, False])

    def test_planned_companies(self):
        company = (seq(*[A] * 12), B)
        self.exact(is_company(planned(company, ((0,) * 12, (FAR,)))), True)
        self.exact(is_company(planned(company, ((0,) * 12, (FAR + 1,)))), False)
        self.exact(is_company(planned(company, ((1,) + (0,) * 11, (0,)))), False)


class Entries(Case):
    def test_programs_come_one_after_the_other_in_each_round(self):
        company = (seq(A, wait(1), B), seq(wait(1), C), seq(B, wait(1), A, A))
        self.exact(company_total(company), 6)
        wanted = [(0, 0, 0, "a"), (2, 0, 0, "b"), (0, 1, 1, "b"), (1, 0, 1, "c"), (2, 1, 1, "a"), (2, 2, 1, "a")]
        self.exact([company_entry(company, number) for number in range(6)], wanted)
        self.exact(company_entries(company, 0, 6), tuple((index, word) for index, own, at, word in wanted))
        self.exact([company_number(company, index, own) for index, own, at, word in wanted], list(range(6)))

    def test_one_program(self):
        program = seq(A, wait(3), B, C)
        self.exact(company_total((program,)), 3)
        self.exact([company_entry((program,), 2), company_number((program,), 0, 2)], [(0, 2, 3, "c"), 2])
        self.exact(company_entries((program,), 1, 9), ((0, "b"), (0, "c")))

    def test_eight_programs(self):
        company = tuple(("loop", FAR, seq(wait(1), ("log", word))) for word in "abcdefgh")
        self.exact(company_total(company), 8 * FAR)
        number = 8 * (FAR // 3) + 5
        self.exact(company_entry(company, number), (5, FAR // 3, FAR // 3 + 1, "f"))
        self.exact(company_number(company, 5, FAR // 3), number)
        wanted = tuple((index, "abcdefgh"[index]) for index in (5, 6, 7, 0, 1))
        self.exact(company_entries(company, number, number + 5), wanted)

    def test_no_words_at_all(self):
        for company in ((seq(),), (wait(1), ("loop", 0, seq(A, wait(1)))), (("loop", FAR, wait(2)),) * 8):
            self.exact([company_total(company), company_entries(company, 0, 2000)], [0, ()])
            self.raises(NoEntry, {"number": 0}, company_entry, company, 0)
            self.raises(NoEntry, {"number": 0}, company_number, company, 0, 0)

    def test_a_silent_program_among_others(self):
        company = (wait(2), A, seq(), seq(wait(2), B))
        self.exact(company_entries(company, 0, 5), ((1, "a"), (3, "b")))
        self.exact(company_entry(company, 1), (3, 0, 2, "b"))
        self.raises(NoEntry, {"number": 0}, company_number, company, 2, 0)


class WrongValues(Case):
    C = (seq(A, wait(1), B), C)

    def test_entries(self):
        for value in (*ODD_VALUES, 3, 10 ** 40, (0,), [0], "0"):
            self.raises(NoEntry, {"number": value}, company_entry, self.C, value)

    def test_programs(self):
        for value in (*ODD_VALUES, 2, 8, 10 ** 40, (0,), [0], "0"):
            for own in (0, 1, 5, None, [0], True):
                self.raises(NoProgram, {"program": value}, company_number, self.C, value, own)

    def test_numbers(self):
        for value in (*ODD_VALUES, 2, 10 ** 40, (0,), [0], "0"):
            self.raises(NoEntry, {"number": value}, company_number, self.C, 0, value)
        self.exact([company_number(self.C, 0, 1), company_number(self.C, 1, 0)], [2, 1])
        self.raises(NoEntry, {"number": 1}, company_number, self.C, 1, 1)

    def test_the_very_values(self):
        for value in ([0], {"a": [1]}, (0, [1])):
            for call in (lambda: company_entry(self.C, value), lambda: company_number(self.C, 0, value)):
                with self.assertRaises(NoEntry) as caught:
                    call()
                self.assertIs(caught.exception.number, value)
            with self.assertRaises(NoProgram) as caught:
                company_number(self.C, value, value)
            self.assertIs(caught.exception.program, value)

    def test_ranges(self):
        company = (("loop", FAR, seq(A, wait(1))), ("loop", FAR, seq(B, wait(2))))
        self.exact(len(company_entries(company, FAR, FAR + 2000)), 2000)
        for start, stop in ((0, 2001), (FAR, FAR + 2001), (0, 10 ** 40), (10 ** 40 - 2001, 10 ** 40)):
            self.raises(TooMany, {"limit": 2000}, company_entries, company, start, stop)
            self.raises(TooMany, {"limit": 2000}, company_entries, (seq(),), start, stop)
        self.exact(company_entries(company, 2 * FAR - 1, 2 * FAR + 1999), ((1, "b"),))
        self.exact(company_entries(company, 10 ** 40 - 2000, 10 ** 40), ())


class Drawn(Case):
    """Against the small queue, callback by callback."""

    def check(self, company):
        log = company_log(company)
        self.exact(company_total(company), len(log))
        self.exact(company_entries(company, 0, 2000), tuple(item for at, item in log[:2000]))
        half = len(log) // 2
        self.exact(company_entries(company, half, half + 5), tuple(item for at, item in log[half:half + 5]))
        owns = [0] * len(company)
        for number, (at, (index, word)) in enumerate(log):
            self.exact(company_entry(company, number), (index, owns[index], at, word))
            self.exact(company_number(company, index, owns[index]), number)
            owns[index] += 1
        self.raises(NoEntry, {"number": len(log)}, company_entry, company, len(log))
        for index, many in enumerate(owns):
            self.raises(NoEntry, {"number": many}, company_number, company, index, many)

    def test_small_companies(self):
        for company in drawn_companies(1001, 500, 8, 8):
            self.exact(is_company(company), True)
            self.check(company)

    def test_larger_programs(self):
        for company in drawn_companies(1002, 150, 4, 40):
            self.check(company)

    def test_planned_companies(self):
        source = random.Random(1003)
        for company in drawn_companies(1004, 200, 8, 12):
            steps = [len(part[1]) if part[0] == "seq" else 1 for part in company]
            self.check(planned(company, tuple(tuple(source.randint(0, 3) for _ in range(many)) for many in steps)))

    def test_as_program(self):
        for company in drawn_companies(1005, 150, 8, 12):
            program = as_program(company)
            self.exact(program, ("join", company))
            if len(company) > 6:
                self.exact(is_program(program), False)
            end, rows = run_rows(program)
            log = in_order(rows)
            self.exact([finish(program), last_round(program)], [end, max(rows, default=None)])
            self.exact([total(program), company_total(company)], [len(log)] * 2)
            self.exact([entry(program, number) for number in range(len(log))], log)
            self.exact(entries(program, 0, 2000), tuple(word for at, word in log[:2000]))
            for at in range(12):
                words = tuple(rows.get(at, ()))
                self.exact(words_in(program, at), words)
                self.exact([item for item in marked(program, at) if item is not None], list(words))
                self.exact(count_before(program, at), len([item for item in log if item[0] < at]))


class Far(Case):
    def test_loops_with_unlike_steps(self):
        company = tuple(("loop", FAR, seq(wait(step), ("log", "abcdef"[step - 1]))) for step in range(1, 7))
        self.exact(company_total(company), 6 * FAR)
        for at in (60, 60 * 10 ** 15, FAR - 40):
            # The entries of program k are in the rounds that are multiples of k + 1, from k + 1 on.
            before = [(at - 1) // step for step in range(1, 7)]
            now = [index for index in range(6) if at % (index + 1) == 0]
            for place, index in enumerate(now):
                number = sum(before) + place
                self.exact(company_entry(company, number), (index, before[index], at, "abcdef"[index]))
                self.exact(company_number(company, index, before[index]), number)
            wanted = tuple((index, "abcdef"[index]) for index in now)
            self.exact(company_entries(company, sum(before), sum(before) + len(now)), wanted)
        # In the rounds behind 5 * 10 ** 18 only the last program logs.
        self.exact(company_entry(company, 6 * FAR - 1), (5, FAR - 1, 6 * FAR, "f"))
        self.exact(company_number(company, 5, FAR - 7), 6 * FAR - 7)

    def test_numbers_beyond_the_limits(self):
        company = planned((A, seq(B, C)), ((10 ** 40,), (10 ** 30, 10 ** 40)))
        self.exact(is_company(company), False)
        wanted = [(1, 0, 10 ** 30, "b"), (0, 0, 10 ** 40, "a"), (1, 1, 10 ** 30 + 10 ** 40, "c")]
        self.exact([company_entry(company, number) for number in range(3)], wanted)
        self.exact([company_number(company, 1, 1), company_number(company, 0, 0)], [2, 1])

    def test_against_loops_that_are_run(self):
        """With 60 * k more rounds of each loop, the middle grows and the end moves."""
        source = random.Random(1006)
        turns = 10 ** 16
        for _ in range(12):
            company = tuple(drawn_stretch(source, 150, source.randint(1, 3)) for _ in range(source.randint(1, 8)))
            far = tuple(stretched(program, 60 * turns) for program in company)
            self.exact(is_company(far), True)
            log = company_log(company)
            turn = [len([at for at, item in log if 60 <= at < 120 and item[0] == index]) for index in range(len(far))]
            self.exact(company_total(far), len(log) + sum(turn) * turns)
            owns = [0] * len(far)
            for number, (at, (index, word)) in enumerate(log):
                own, moved, late = owns[index], number + sum(turn) * turns, owns[index] + turn[index] * turns
                owns[index] += 1
                if at < 120 and number % 5 == 0:
                    self.exact(company_entry(far, number), (index, own, at, word))
                    self.exact(company_number(far, index, own), number)
                if at >= 60 and number % 5 == 0:
                    self.exact(company_entry(far, moved), (index, late, at + 60 * turns, word))
                    self.exact(company_number(far, index, late), moved)
            start = max(len(log) - 2000, len([at for at, item in log if at < 60]))
            found = company_entries(far, start + sum(turn) * turns, start + sum(turn) * turns + 2000)
            self.exact(found, tuple(item for at, item in log[start:]))
