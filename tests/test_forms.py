"""Forms: what is one, which program has it, and the forms of composed programs."""

import random

from awaitrounds.errors import TooLong, TooMany
from awaitrounds.forms import form_of, forked, is_form, joined, program_of, raced, repeated, then
from awaitrounds.programs import depth, is_program, node_count, part_at, places
from awaitrounds.rounds import finish
from tests.checks import ODD_VALUES, Case
from tests.drawing import drawn_forms, drawn_programs
from tests.small_queue import marked_rows

A = ("log", "a")
PLAIN = (0, ((None,),))
FAR = 10 ** 18


def seq(*parts):
    return ("seq", parts)


def word_count(form):
    return sum(item is not None for row in form[1] for item in row)


def waiting(many):
    """The form with so many rows and without words."""
    return (many - 1, ((),) * (many - 1) + ((None,),))


def speaking(ahead, behind=0):
    """The form with finish 0 and so many words on either side of the gap."""
    return (0, (("a",) * ahead + (None,) + ("b",) * behind,))


class IsForm(Case):
    def test_forms(self):
        good = (
            PLAIN, (0, (("a", None, "b"),)), (1, ((), (None,))), (1, (("a",), (None,), (None, "b"))),
            (0, ((None,), (None,), ("abcdefgh", None))), (2, (("a",), (), ("b", None, "c"), (None, "d"))),
            (1, (("a", "a", "a"), ("a", None, "a"))),
        )
        for form in good:
            self.exact(is_form(form), True)

    def test_values_of_every_kind(self):
        for value in (*ODD_VALUES, 0, 1, (), (0,), (0, 0), (0, ()), (0, (), ()), ("log", "a"), A):
            self.exact(is_form(value), False)

    def test_values_of_every_kind_within(self):
        for value in (*ODD_VALUES, 1, 10 ** 40, ()):
            self.exact(is_form((value, ((None,),))), False)
            self.exact(is_form((1, ((), (None,), value))), False)
            self.exact(is_form((0, value)), False)
        for value in (*[value for value in ODD_VALUES if value != "log" and value is not None], 0, 1, ()):
            self.exact(is_form((0, ((None, value),))), False)
            self.exact(is_form((1, ((value,), (None,)))), False)

    def test_lists_and_lengths(self):
        bad = (
            [0, ((None,),)], (0, [(None,)]), (0, ([None],)), (0, ((None,),), 0), (0,), (0, ((None,), ["a", None])),
            (0, {(None,): 1}), (0, ({None: 1},)), (0, (None,)), (0, ("a",)), (0, "a"),
        )
        for value in bad:
            self.exact(is_form(value), False)

    def test_finish(self):
        row = (None, "a")
        for end in range(0, 6):
            form = (end, ((),) * end + (row,) * (4 - end))
            self.exact(is_form(form), end < 4)
            self.exact(is_form((end, (("a",),) * 4)), False)
        for end in (-1, True, False, None, "0", (0,), FAR):
            self.exact(is_form((end, (("a", None),))), False)
        self.exact(is_form((True, ((), (None,)))), False)

    def test_gaps(self):
        bad = (
            (0, ((),)), (0, (("a",),)), (0, ((None, None),)), (0, ((None, "a", None),)), (1, ((None,), (None,))),
            (1, ((), ())), (1, (("a", None), (None,))), (0, ((None,), ("a",))), (0, (("a",), (None,))),
            (1, ((), (None,), ("a",))),
        )
        for value in bad:
            self.exact(is_form(value), False)

    def test_last_row(self):
        bad = (
            (0, ((None,), (None,))), (0, (("a", None), (None,))), (1, ((), (None,), (None,))),
            (0, ((None,), ("a", None), (None,))),
        )
        for value in bad:
            self.exact(is_form(value), False)
        for row in ((None, "a"), ("a", None)):
            self.exact(is_form((0, ((None,), (None,), row))), True)

    def test_words(self):
        for word in ("", "abcdefghi", "A", "a b", "\u00e4", 0, True, (), ("a",), ["a"], {}):
            self.exact(is_form((0, ((None, word),))), False)
            self.exact(is_form((1, ((word,), (None,)))), False)

    def test_rows(self):
        for many in (23, 24, 25, 26):
            self.exact(is_form(waiting(many)), many <= 24)
            self.exact(is_form((0, ((None,),) * (many - 1) + (("a", None),))), many <= 24)

    def test_number_of_words(self):
        for many in (29, 30, 31, 32):
            self.exact(is_form(speaking(many)), many <= 30)
            self.exact(is_form(speaking(0, many)), many <= 30)
            self.exact(is_form(speaking(10, many - 10)), many <= 30)
            self.exact(is_form((1, (("a",) * 15, ("a",) * (many - 15) + (None,)))), many <= 30)

    def test_drawn(self):
        for form in drawn_forms(801, 500):
            self.exact(is_form(form), True)

    def test_spoiled(self):
        source = random.Random(802)
        for end, rows in drawn_forms(803, 300):
            at = source.randrange(len(rows))
            for spoiled in ((None, *rows[at]), list(rows[at]), (*rows[at], "A"), None, (*rows[at], None, None)):
                bad = end, rows[:at] + (spoiled,) + rows[at + 1:]
                if at < end and spoiled == (None,) and at == len(rows) - 1:
                    continue
                self.exact(is_form(bad), False)
            self.exact(is_form((end, rows + ((None,),))), False)
            self.exact(is_form((len(rows), rows)), False)


class FormOf(Case):
    def test_rows_go_at_least_up_to_the_finish(self):
        self.exact(form_of(("await", 2)), (2, ((), (), (None,))))
        self.exact(form_of(seq(A, ("await", 1))), (1, (("a",), (None,))))
        self.exact(form_of(("fork", ("await", 9))), PLAIN)
        self.exact(form_of(("fork", seq(("await", 2), A))), (0, ((None,), (None,), ("a", None))))

    def test_number_of_rows(self):
        self.exact(form_of(("await", 23)), waiting(24))
        self.exact(form_of(("fork", seq(("await", 23), A))), (0, ((None,),) * 23 + (("a", None),)))
        bad = (
            ("await", 24), ("await", FAR), ("fork", seq(("await", 24), A)), ("race", (seq(), seq(("await", 24), A))),
            ("loop", FAR, ("await", 1)), ("loop", 12, ("await", 2)), seq(("await", FAR), ("await", FAR)),
        )
        for program in bad:
            self.raises(TooLong, {"limit": 24}, form_of, program)
        self.exact(len(form_of(("loop", 23, seq(A, ("await", 1))))[1]), 24)
        self.exact(form_of(("race", (("await", FAR), A))), (0, (("a", None),)))

    def test_number_of_words(self):
        logs = [seq(*[A] * 10)] * 3
        self.exact(form_of(seq(*logs)), speaking(30))
        bad = (
            seq(*logs, A), seq(*logs, ("await", 1), A), ("race", (seq(), seq(*logs), A)), ("fork", seq(*logs, A)),
            ("loop", 3, seq(*[A] * 11, ("await", 1))), ("loop", 16, seq(A, A, ("await", 1))),
        )
        for program in bad:
            self.raises(TooMany, {"limit": 30}, form_of, program)
        self.exact(word_count(form_of(("loop", 15, seq(A, A, ("await", 1))))), 30)

    def test_too_long_comes_first(self):
        logs = [seq(*[A] * 10)] * 4
        self.raises(TooLong, {"limit": 24}, form_of, seq(*logs, ("await", 24)))
        self.raises(TooLong, {"limit": 24}, form_of, ("loop", FAR, seq(A, ("await", 1))))
        self.raises(TooMany, {"limit": 30}, form_of, seq(*logs, ("await", 23)))


class ProgramOf(Case):
    def check(self, form):
        program = program_of(form)
        self.exact(is_program(program), True)
        parts = [part_at(program, place) for place in places(program)]
        self.exact([part for part in parts if part[0] == "loop"], [])
        self.exact([part for part in parts if part[0] == "await" and part[1] > 23], [])
        self.assertLessEqual(depth(program), 8)
        self.assertLessEqual(node_count(program), 2 * word_count(form) + 16)
        self.exact(form_of(program), form)
        return program

    def check_run(self, form):
        program = self.check(form)
        end, rows = form
        wanted = [*rows, (None,), (None,)]
        self.exact(marked_rows(program, len(rows) + 1), wanted)

    def test_drawn_forms(self):
        for form in drawn_forms(811, 1500):
            self.check_run(form)
        for form in drawn_forms(812, 1500, 6, 12):
            self.check_run(form)

    def test_forms_without_words(self):
        for many in range(1, 25):
            self.check_run(waiting(many))

    def test_a_single_word_on_either_side_of_the_gap(self):
        for end in range(24):
            for at in range(24):
                for word in ((("a",),) if at < end else (("a", None), (None, "a"))):
                    rows = [() for _ in range(end)] + [(None,) for _ in range(end, max(end, at) + 1)]
                    rows[at] = word
                    self.check_run((end, tuple(rows)))

    def test_forms_at_the_limits(self):
        source = random.Random(813)
        for _ in range(400):
            end, many = source.choice([0, 1, 12, 22, 23]), source.choice([24, 24, 20])
            rows = [[] for _ in range(max(end + 1, many))]
            for index in range(30):
                rows[(index * source.choice([1, 5, 7])) % len(rows)].append("w" + "abc"[index % 3])
            rows[-1].append("z")
            rows[source.randrange(len(rows) - 1)] = []
            while sum(map(len, rows)) > 30:
                max(rows, key=len).pop()
            for row in rows[end:]:
                row.insert(source.choice([0, len(row) // 2, len(row)]), None)
            form = (end, tuple(tuple(row) for row in rows))
            if is_form(form):
                self.check_run(form)

    def test_one_word_in_each_row(self):
        for end in range(24):
            ahead = tuple(("a",) for _ in range(end))
            self.check_run((end, ahead + (("a", None),) * (24 - end)))
            self.check_run((end, ahead + ((None, "b"),) * (24 - end)))
            self.check_run((end, ahead + (("a", None), (None, "b")) * ((24 - end) // 2) + ((None, "b"),) * (end % 2)))

    def test_words_on_both_sides_in_many_rows(self):
        for end in (0, 4, 8):
            for ahead in range(1, 30):
                rows = [["a"] for _ in range(end)] + [[None] for _ in range(24 - end)]
                for index in range(30 - end):
                    row = rows[end + index % (24 - end)]
                    row.insert(0 if index < ahead else len(row), "w")
                self.check_run((end, tuple(map(tuple, rows))))

    def test_all_words_in_one_row(self):
        for many in (12, 13, 24, 25, 30):
            for ahead in (0, 1, many // 2, many):
                self.check_run(speaking(ahead, many - ahead))
                self.check_run((23, ((),) * 23 + speaking(ahead, many - ahead)[1]))

    def test_equal_forms_get_equal_programs(self):
        for form in drawn_forms(814, 50):
            self.exact(program_of(form), program_of((form[0], tuple(tuple(list(row)) for row in form[1]))))

    def test_beyond_the_limits(self):
        for form in (waiting(40), speaking(40), speaking(200, 200), (0, (("a", None),) * 60)):
            self.exact(finish(program_of(form)), form[0])


def outcome(call, *args):
    """What a call returns, or the error that it raises."""
    try:
        return repr(call(*args))
    except (TooLong, TooMany) as error:
        return f"{error.__class__.__name__}({error.limit})"


class Composed(Case):
    SMALL = drawn_forms(821, 300, 8, 9)
    LARGE = drawn_forms(822, 300)
    PROGRAMS = drawn_programs(823, 300, 1, 30)

    def groups(self, forms, seed):
        source = random.Random(seed)
        return [tuple(source.choice(forms) for _ in range(source.randint(1, 6))) for _ in range(400)]

    def same(self, call, args, program):
        found = outcome(call, *args)
        self.assertEqual(found, outcome(form_of, program))
        if found.startswith("("):
            self.exact(is_form(call(*args)), True)

    def test_then(self):
        for forms in (self.SMALL, self.LARGE):
            for one, other in zip(forms, forms[1:]):
                self.same(then, (one, other), seq(program_of(one), program_of(other)))

    def test_forked(self):
        for form in self.SMALL + self.LARGE:
            self.same(forked, (form,), ("fork", program_of(form)))

    def test_joined_and_raced(self):
        for forms in self.groups(self.SMALL, 824) + self.groups(self.LARGE, 825):
            programs = tuple(program_of(form) for form in forms)
            self.same(joined, (forms,), ("join", programs))
            self.same(raced, (forms,), ("race", programs))

    def test_repeated(self):
        for form in self.SMALL + self.LARGE:
            for count in (0, 1, 2, 3, 5, 24):
                self.same(repeated, (form, count), ("seq", (program_of(form),) * count))

    def test_forms_of_parts_that_are_programs(self):
        pairs = []
        for program in self.PROGRAMS:
            if outcome(form_of, program).startswith("("):
                pairs.append((program, form_of(program)))
        self.assertGreater(len(pairs), 200)
        for (one, first), (other, second) in zip(pairs, pairs[1:]):
            self.same(then, (first, second), seq(one, other))
            self.same(forked, (first,), ("fork", one))
            self.same(joined, ((first, second),), ("join", (one, other)))
            self.same(raced, ((first, second),), ("race", (one, other)))
            self.same(repeated, (first, 3), seq(one, one, one))

    def test_against_a_run(self):
        for one, other in zip(self.SMALL, self.SMALL[1:]):
            for call, kind in ((joined, "join"), (raced, "race")):
                program = (kind, (program_of(one), program_of(other)))
                end, rows = call((one, other))
                self.exact(marked_rows(program, len(rows)), [*rows, (None,)])

    def test_rows_without_words_are_dropped(self):
        late = (5, (("a",), (), (), (), (), (None,)))
        self.exact(forked(late), (0, (("a", None),)))
        self.exact(raced((late, (1, ((), (None,))))), (1, (("a",), (None,))))
        self.exact(raced((PLAIN, late)), (0, ((None, "a"),)))

    def test_repeated_none(self):
        self.exact(repeated((2, (("a",), (), ("b", None))), 0), PLAIN)
        self.exact(repeated(PLAIN, 24), PLAIN)
        self.exact(repeated(speaking(1, 2), 3), (0, (("a",) * 3 + (None,) + ("b",) * 6,)))

    def test_one_form_alone(self):
        for form in self.LARGE[:50]:
            self.exact([joined((form,)), raced((form,)), repeated(form, 1),
                       then(form, PLAIN), then(PLAIN, form)], [form] * 5)

    def test_six_forms(self):
        forms = tuple((1, ((word,), (None,))) for word in "abcdef")
        self.exact([joined(forms), raced(forms)], [(1, (tuple("abcdef"), (None,)))] * 2)


class ComposedLimits(Case):
    def test_then(self):
        self.exact(then(waiting(12), waiting(13)), waiting(24))
        self.raises(TooLong, {"limit": 24}, then, waiting(13), waiting(13))
        self.exact(then(speaking(10), speaking(20)), speaking(30))
        self.raises(TooMany, {"limit": 30}, then, speaking(10), speaking(21))
        self.raises(TooLong, {"limit": 24}, then, (23, ((),) * 23 + (("a",) * 30 + (None,),)), (1, (("a",), (None,))))
        late = (0, ((None,),) * 23 + (("a", None),))
        self.exact(then(PLAIN, late), late)
        self.raises(TooLong, {"limit": 24}, then, waiting(2), late)

    def test_joined_and_raced(self):
        self.exact(joined((speaking(10), speaking(19, 1))), speaking(29, 1))
        self.exact(raced((speaking(0), speaking(0, 20), speaking(0, 10))), speaking(0, 30))
        for call in (joined, raced):
            self.exact(word_count(call((speaking(5),) * 6)), 30)
            self.raises(TooMany, {"limit": 30}, call, (speaking(5),) * 5 + (speaking(6),))
            self.raises(TooMany, {"limit": 30}, call, (waiting(24), speaking(30), speaking(1)))
            self.exact(len(call((waiting(24), waiting(24)))[1]), 24)

    def test_repeated(self):
        self.exact(repeated(waiting(2), 23), waiting(24))
        self.raises(TooLong, {"limit": 24}, repeated, waiting(2), 24)
        self.raises(TooLong, {"limit": 24}, repeated, waiting(24), 2)
        self.exact(repeated(speaking(1, 1), 15), speaking(15, 15))
        self.raises(TooMany, {"limit": 30}, repeated, speaking(1, 1), 16)
        self.raises(TooMany, {"limit": 30}, repeated, speaking(2), 24)
        self.raises(TooLong, {"limit": 24}, repeated, (1, (("a", "a"), (None,))), 24)
        self.raises(TooMany, {"limit": 30}, repeated, (1, (("a", "a"), (None,))), 16)

    def test_arguments_beyond_the_limits(self):
        self.raises(TooLong, {"limit": 24}, forked, (24, ((),) * 24 + (("a", None),)))
        self.raises(TooMany, {"limit": 30}, forked, speaking(31))
        self.raises(TooLong, {"limit": 24}, then, waiting(25), PLAIN)
        self.exact(forked(waiting(25)), PLAIN)
        self.exact(joined((PLAIN,) * 9), PLAIN)
        self.exact(repeated(PLAIN, FAR), PLAIN)
        self.raises(TooMany, {"limit": 30}, repeated, speaking(1), 40)
