"""Texts: written, read back, and refused at the right place."""

import random

from awaitrounds.company import is_company
from awaitrounds.errors import BadText
from awaitrounds.programs import is_program
from awaitrounds.texts import read_company, read_program, show_company, show_program
from tests.checks import ODD_VALUES, Case, nested
from tests.drawing import drawn_companies, drawn_programs
from tests.text_check import first_wrong, meant

A = ("log", "a")
FAR = 10 ** 18
SIGNS = "acdefgijklnopqrstwz0123456789() ;;, \n\tAZ-+._\u0663\u00e4"


def changed(source, text):
    """A text with one sign left out, doubled, replaced or put in, or two exchanged, or a piece moved."""
    at = source.randrange(len(text) + 1)
    sign = source.choice(SIGNS)
    return source.choice([
        text[:at] + text[at + 1:], text[:at] + text[at:at + 1] + text[at:], text[:at] + sign + text[at + 1:],
        text[:at] + sign + text[at:], text[:at] + text[at + 1:at + 2] + text[at:at + 1] + text[at + 2:],
        text[:at] + text[at + 3:], text[:at] + text[max(0, at - 4):], text[:at],
    ])


class TextCase(Case):
    def refused(self, text, position):
        self.raises(BadText, {"position": position}, read_program, text)

    def checked(self, text):
        """Compares with what the test finds by itself; returns whether there is a program."""
        wrong = first_wrong(text)
        if wrong is not None:
            self.refused(text, wrong)
            return False
        program = meant(text)
        if not is_program(program):
            self.refused(text, len(text))
            return False
        self.exact(read_program(text), program)
        self.exact(show_program(program), text)
        return True


class Shown(TextCase):
    EACH = (
        (A, "log a"), (("log", "abcdefgh"), "log abcdefgh"), (("await", 1), "await 1"),
        (("await", FAR), "await 1000000000000000000"), (("seq", ()), "seq()"), (("seq", (A,)), "seq(log a)"),
        (("seq", (A, ("await", 10))), "seq(log a; await 10)"), (("fork", A), "fork(log a)"),
        (("fork", ("seq", ())), "fork(seq())"), (("join", (A,)), "join(log a)"),
        (("join", (A, ("fork", A), A)), "join(log a; fork(log a); log a)"),
        (("race", (("race", (A, A)), A)), "race(race(log a; log a); log a)"),
        (("loop", 0, ("await", 1)), "loop 0 await 1"), (("loop", FAR, ("await", 6)), "loop 1000000000000000000 await 6"),
        (("loop", 20, ("seq", (A, ("await", 2)))), "loop 20 seq(log a; await 2)"),
    )

    def test_each_kind(self):
        for program, text in self.EACH:
            self.exact([show_program(program), read_program(text)], [text, program])

    def test_companies(self):
        for at in range(len(self.EACH) - 8):
            company, text = tuple(zip(*self.EACH[at:at + 8]))
            self.exact([show_company(company), read_company("\n".join(text))], ["\n".join(text), company])
        self.exact([show_company((A,)), read_company("log a")], ["log a", (A,)])

    def test_drawn_programs(self):
        for program in drawn_programs(2301, 600, 1, 80):
            text = show_program(program)
            self.exact(read_program(text), program)
            self.exact(first_wrong(text), None)
            self.exact(meant(text), program)

    def test_drawn_companies(self):
        for company in drawn_companies(2302, 150, 8, 60):
            text = show_company(company)
            self.exact(text, "\n".join([show_program(program) for program in company]))
            self.exact(read_company(text), company)

    def test_read_programs_are_of_the_plain_kinds(self):
        program = read_program("loop 3 seq(log x; await 2)")
        self.exact([program.__class__, program[1].__class__, program[2][1].__class__], [tuple, int, tuple])


class Places(TextCase):
    def test_by_hand(self):
        for text, position in (
            ("", 0), (" ", 0), ("x", 0), ("l", 1), ("lo", 2), ("log", 3), ("log ", 4), ("loga", 3), ("log  a", 4),
            ("log A", 4), ("log 1", 4), ("log a ", 5), ("log a1", 5), ("log a\n", 5), ("log a)", 5), ("log a;", 5),
            ("lop", 2), ("loo 3", 3), ("Log a", 0), ("await", 5), ("await ", 6), ("await -1", 6), ("await x", 6),
            ("await 00", 7), ("await 01", 7), ("await 1 ", 7), ("await 1a", 7), ("await \u0663", 6), ("awa it 1", 3),
            ("seq", 3), ("seq(", 4), ("seq (", 3), ("seq( )", 4), ("seq(;", 4), ("seq())", 5), ("seq(log a", 9),
            ("seq(log a;", 10), ("seq(log a; ", 11), ("seq(log a;)", 10), ("seq(log a; )", 11), ("seq(log a ;", 9),
            ("seq(log a;  log b)", 11), ("seq(log a,", 9), ("seq(seq()", 9), ("seq(seq();", 10), ("fork", 4),
            ("fork(", 5), ("fork()", 5), ("fork(log a", 10), ("fork(log a; log b)", 10), ("join(log a;log b)", 11),
            ("race(", 5), ("race(log a;; log b)", 11), ("rac(", 3), ("loop", 4), ("loop ", 5), ("loop x", 5),
            ("loop 3", 6), ("loop 3 ", 7), ("loop 3  ", 7), ("loop 03", 6), ("loop 3(", 6), ("loop 3 log", 10),
            ("loop 3 await 1)", 14), ("loop 3 await 1; ", 14), ("seq(loop 3 await 1", 18), ("a", 1), ("s", 1),
            ("seq(r", 5), ("seq(log a; q", 11), ("fork)", 4), (")", 0), ("(log a)", 0), ("\nlog a", 0),
        ):
            self.exact(first_wrong(text), position)
            self.refused(text, position)

    def test_a_text_that_ends_too_early(self):
        for program in drawn_programs(2303, 60, 4, 40):
            text = show_program(program)
            for many in range(len(text)):
                self.checked(text[:many])

    def test_one_change(self):
        source = random.Random(2304)
        programs = 0
        for program in drawn_programs(2305, 400, 1, 30):
            text = show_program(program)
            for _ in range(12):
                programs += self.checked(changed(source, text))
        self.assertGreater(programs, 300)

    def test_several_changes(self):
        source = random.Random(2306)
        for program in drawn_programs(2307, 400, 1, 12):
            text = show_program(program)
            for _ in range(4):
                text = changed(source, text)
                self.checked(text)

    def test_each_sign_at_each_place(self):
        for text in ("log ab", "await 20", "seq(log a; await 1)", "fork(race(seq()))", "loop 20 await 2", "join(seq())"):
            for at in range(len(text) + 1):
                for sign in SIGNS:
                    self.checked(text[:at] + sign + text[at:])
                    self.checked(text[:at] + sign + text[at + 1:])
                self.checked(text[:at] + text[at + 1:])

    def test_all_short_texts_of_few_signs(self):
        for core in ("log a", "await 0", "await 1", "seq()", "join()"):
            texts = [core]
            for _ in range(2):
                texts = [ahead + text + behind for text in texts for ahead in ("", "fork(", "loop 2 ", "seq(", "; ")
                         for behind in ("", ")", "; ", "; log b)", "0")]
            for text in texts:
                self.checked(text)


class NoPrograms(TextCase):
    """Texts that have the form and write no program."""

    TEXTS = (
        "await 0", "await 1000000000000000001", "join()", "race()", "log abcdefghi", "loop 2 log a", "loop 2 await 7",
        "loop 1000000000000000001 await 1", "loop 2 loop 2 await 1", "loop 0 seq()", "seq(log a; join())",
        "fork(await 0)", "loop 2 seq(await 1; fork(seq(await 30; log a)))",
        "loop 2 seq(await 1; " + "; ".join(["log a"] * 11) + "; join(log a; log a))", "await " + "1" * 40,
        "seq(" + "; ".join(["log a"] * 13) + ")", "join(" + "; ".join(["log a"] * 7) + ")",
        "race(" + "; ".join(["log a"] * 7) + ")", nested(lambda text: f"fork({text})", 12, "log a"),
        "seq(" + "; ".join(["seq(" + "; ".join(["log a"] * 12) + ")"] * 7) + ")",
        "seq(" + "; ".join(["loop 1 await 1"] * 9) + ")",
    )

    def test_at_the_end(self):
        for text in self.TEXTS:
            self.exact(first_wrong(text), None)
            self.refused(text, len(text))

    def test_limits_do_not_matter_for_the_place(self):
        for text in self.TEXTS:
            self.refused(text + " ", len(text))
            self.refused("seq(" + text + "; ?", len(text) + 6)
            self.refused("seq(" + text, len(text) + 4)
            self.refused("seq(" + text + ")", len(text) + 5)

    def test_just_within_the_limits(self):
        for text in ("await 1000000000000000000", "log abcdefgh", "loop 1000000000000000000 await 6", "loop 0 await 1",
                     "seq(" + "; ".join(["log a"] * 12) + ")", "join(" + "; ".join(["log a"] * 6) + ")",
                     "race(" + "; ".join(["log a"] * 6) + ")", nested(lambda text: f"fork({text})", 11, "log a"),
                     "seq(" + "; ".join(["loop 1 await 1"] * 8) + ")",
                     "seq(" + "; ".join(["seq(" + "; ".join(["log a"] * 12) + ")"] * 6) + "; log b)"):
            self.exact(show_program(read_program(text)), text)


class Long(TextCase):
    """Texts of up to 20000 signs."""

    def test_thousands_of_nested_forks(self):
        for many in (1000, 3000, 3332):
            text = nested(lambda core: f"fork({core})", many, "log a")
            self.assertLessEqual(len(text), 20000)
            self.refused(text, len(text))
            self.refused(text[:-1], len(text) - 1)
            self.refused(text[:5 * many], 5 * many)
            self.refused(text + ")", len(text))
            self.refused(text.replace("a", "a; "), 5 * many + 5)
            self.refused(text[:-7] + "; " + text[-7:], len(text) - 7)

    def test_thousands_of_nodes_of_each_kind(self):
        for head, tail, core in (("seq(", ")", ""), ("join(", ")", "log a"), ("race(", ")", ""), ("loop 2 ", "", "log a"),
                                 ("loop 0 fork(", ")", "await 1"), ("seq(log a; join(seq(); ", "))", "log b")):
            many = (20000 - len(core)) // len(head + tail)
            text = head * many + core + tail * many
            self.refused(text, len(text))
            self.refused(text + "x", len(text) + (1 if tail == "" else 0))
            self.refused(head * many + "?", len(head) * many)

    def test_thousands_of_parts(self):
        for kind in ("seq", "join", "race"):
            text = kind + "(" + "; ".join(["log a"] * 2850) + ")"
            self.refused(text, len(text))
            self.refused(text[:-1] + "; )", len(text) + 1)
            self.refused(text[:-1], len(text) - 1)

    def test_numbers_of_thousands_of_digits(self):
        for digits in (20, 41, 4300, 4301, 5000, 19000):
            for text in ("await " + "9" * digits, "loop " + "9" * digits + " await 1", "await 1" + "0" * digits):
                self.refused(text, len(text))
                self.refused(text + "x", len(text))
                self.refused("fork(" + text, len(text) + 5)
                self.refused("fork(" + text + ")", len(text) + 6)
            self.refused("loop " + "1" * digits, digits + 5)
            self.refused("await 0" + "1" * digits, 7)

    def test_long_words(self):
        self.refused("log " + "z" * 19000, 19004)
        self.refused("log " + "z" * 19000 + "1", 19004)

    def test_against_the_check(self):
        source = random.Random(2308)
        for many in (300, 2000):
            text = nested(lambda core: source.choice(["fork({})", "seq({}; log a)", "loop 3 {}"]).format(core), many, "seq()")
            self.refused(text, len(text))
            for _ in range(10):
                other = changed(source, text)
                wrong = first_wrong(other)
                self.refused(other, len(other) if wrong is None else wrong)


class WrongValues(TextCase):
    def test_no_strings(self):
        for value in (*ODD_VALUES, 0, 1, 10 ** 40, (), ("log a",), ["log a"], {"log a": 1}, ("log", "a")):
            if not isinstance(value, str):
                self.refused(value, 0)
                self.raises(BadText, {"position": 0}, read_company, value)

    def test_strings_of_every_kind(self):
        for value in ODD_VALUES:
            if isinstance(value, str):
                self.checked(value)

    def test_signs_that_look_alike(self):
        for text, position in (("log \u0430", 4), ("await \u0661", 6), ("await 1\u0660", 7), ("seq\uff08)", 3),
                               ("log\u00a0a", 3), ("loop 2\u2003await 1", 6), ("log a\u0301", 5), ("log \u00df", 4),
                               ("log a\r", 5), ("log a\x00", 5), ("await \u00b2", 6), ("await 1_0", 7), ("await +1", 6)):
            self.refused(text, position)


class Companies(Case):
    def refused(self, text, line):
        self.raises(BadText, {"position": line}, read_company, text)

    def test_eight_and_nine_lines(self):
        lines = ["log " + letter for letter in "abcdefghij"]
        for many in range(1, 9):
            self.exact(read_company("\n".join(lines[:many])), tuple(("log", letter) for letter in "abcdefgh"[:many]))
        self.refused("\n".join(lines[:9]), 8)
        self.refused("\n".join(lines), 8)
        self.refused("\n".join([*lines[:8], ""]), 8)
        self.refused("\n".join([*lines[:8], "?"]), 8)

    def test_the_first_line_that_is_refused(self):
        lines = ["log a", "await 1", "seq()", "fork(log b)", "join(log c; log d)", "race(seq())", "loop 2 await 1", "log e"]
        for bad in ("", "log", "await 0", "loop 2 log c", "log a ", " log a", "?", "join()", "loop 2", "log a\r"):
            for at in range(8):
                for many in (8, 12):
                    changed_lines = (lines + lines)[:many]
                    changed_lines[at] = bad
                    self.refused("\n".join(changed_lines), at)
                    changed_lines[7] = bad
                    self.refused("\n".join(changed_lines), at)

    def test_blank_lines(self):
        self.refused("", 0)
        self.refused("\n", 0)
        self.refused("\nlog a", 0)
        self.refused("log a\n", 1)
        self.refused("log a\n\nlog b", 1)
        self.refused("log a\nlog b\n", 2)
        self.refused("\n" * 20, 0)
        self.refused(" ", 0)

    def test_only_line_feeds_end_a_line(self):
        for sign in ("\r", "\x0b", "\x0c", "\x1c", "\x85", "\u2028", "; ", ";", "\r\n"):
            self.refused("log a" + sign + "log b", 0)

    def test_long_texts(self):
        text = "\n".join([nested(lambda core: f"fork({core})", 800, "log a")] * 4)
        self.refused(text, 0)
        self.refused("log a\n" + text, 1)
        self.refused("\n" * 20000, 0)
        self.refused("log a\n" * 3000, 8)
        self.refused("seq()\nawait " + "7" * 9000, 1)

    def test_one_change(self):
        source = random.Random(2309)
        good = 0
        for company in drawn_companies(2310, 300, 8, 12):
            text = changed(source, show_company(company))
            lines = text.split("\n")
            bad = [at for at, line in enumerate(lines) if at > 7 or not is_good(line)]
            if bad:
                self.refused(text, bad[0])
            else:
                good += 1
                self.exact(read_company(text), tuple(meant(line) for line in lines))
                self.exact(is_company(read_company(text)), True)
        self.assertGreater(good, 10)


def is_good(line):
    """Whether a line writes a program."""
    return first_wrong(line) is None and is_program(meant(line))
