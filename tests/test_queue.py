"""The rounds against a small queue that runs drawn programs callback by callback."""

from awaitrounds.errors import TooLong, TooMany
from awaitrounds.forms import form_of
from awaitrounds.programs import is_program
from awaitrounds.rounds import finish, last_round, marked, words_in
from tests.checks import Case
from tests.drawing import drawn_programs
from tests.small_queue import company_rows, marked_rows, run_rows

SMALL = drawn_programs(701, 1500, 1, 16)
LARGE = drawn_programs(702, 700, 20, 80)
JOINS = [("join", tuple(LARGE[at:at + 4])) for at in range(600)]
RACES = [("race", tuple(LARGE[at:at + 4])) for at in range(600)]
WIDE = [program for program in JOINS + RACES if is_program(program)]


class Alone(Case):
    def check(self, program):
        self.exact(is_program(program), True)
        end, rows = run_rows(program)
        last = max(rows, default=None)
        self.exact([finish(program), last_round(program)], [end, last])
        horizon = max(end, last or 0) + 3
        wanted = marked_rows(program, horizon)
        for at in range(horizon + 1):
            self.exact(marked(program, at), wanted[at])
            self.exact(words_in(program, at), tuple(rows.get(at, ())))
        self.check_form(program, end, rows, wanted[:horizon - 2])

    def check_form(self, program, end, rows, wanted):
        if len(wanted) > 24:
            self.raises(TooLong, {"limit": 24}, form_of, program)
        elif sum(len(row) for row in rows.values()) > 30:
            self.raises(TooMany, {"limit": 30}, form_of, program)
        else:
            self.exact(form_of(program), (end, tuple(wanted)))

    def test_small_programs(self):
        for program in SMALL:
            self.check(program)

    def test_large_programs(self):
        for program in LARGE:
            self.check(program)

    def test_wide_programs(self):
        for program in WIDE:
            self.check(program)

    def test_the_draw_has_all_that_matters(self):
        forms = [form_or_error(program) for program in SMALL + LARGE + WIDE]
        self.assertGreater(forms.count(TooLong), 100)
        self.assertGreater(forms.count(TooMany), 50)
        self.assertGreater(len([form for form in forms if has_words_behind(form)]), 200)
        self.assertGreater(len([program for program in SMALL + LARGE if "'loop'" in repr(program)]), 500)


def form_or_error(program):
    try:
        return form_of(program)
    except (TooLong, TooMany) as error:
        return error.__class__


def has_words_behind(form):
    return isinstance(form, tuple) and any(row[-1] is not None for row in form[1][form[0]:])


class Together(Case):
    """The words of a program stand together, and what follows it stands in its gap."""

    HORIZON = 25

    def test_several_programs_in_one_queue(self):
        for start in range(0, len(SMALL), 4):
            programs = SMALL[start:start + 4]
            rows = company_rows(programs, self.HORIZON)
            for at in range(self.HORIZON + 1):
                wanted = []
                for index, program in enumerate(programs):
                    wanted += [index if item is None else item for item in marked(program, at)]
                self.exact(rows[at], tuple(wanted))

    def test_within_other_programs(self):
        for one, other in zip(SMALL[:300], LARGE[:300]):
            for whole in (("seq", (one, other)), ("join", (one, other)), ("race", (other, one)), ("fork", one)):
                wanted = marked_rows(whole, self.HORIZON)
                self.exact([marked(whole, at) for at in range(self.HORIZON + 1)], wanted)
