"""The examples of the document, with exactly these results and errors."""

from awaitrounds.errors import BadProgram, TooLong
from awaitrounds.forms import form_of, forked, is_form, joined, program_of, raced, repeated, then
from awaitrounds.programs import depth, is_program, node_count, part_at, places, renamed, replaced, words_of
from awaitrounds.rounds import finish, last_round, marked, words_in
from tests.checks import Case

P = ("seq", (("fork", ("seq", (("await", 1), ("log", "b")))), ("log", "a"), ("await", 1), ("log", "c")))
Q = ("seq", (("log", "a"), ("await", 1), ("log", "b"), ("log", "c")))
L = ("loop", 10 ** 18, ("seq", (("log", "x"), ("await", 2))))
A, B = ("seq", (("log", "a"), ("await", 1))), ("seq", (("await", 1), ("log", "b")))


class Programs(Case):
    def test_is_program(self):
        found = [
            is_program(("log", "a")), is_program(("seq", ())), is_program(("join", ())),
            is_program(("loop", 3, ("log", "a"))),
        ]
        self.exact(found, [True, True, False, False])

    def test_counts_and_names(self):
        found = [node_count(P), depth(P), words_of(P), renamed(("log", "a"), {"a": "z", "b": "y"})]
        self.exact(found, [8, 4, ("a", "b", "c"), ("log", "z")])

    def test_places(self):
        found = [
            places(("fork", ("seq", (("log", "a"),)))), part_at(Q, (2,)),
            replaced(("fork", Q), (0, 1), ("await", 5))[1][1][1],
        ]
        self.exact(found, [((), (0,), (0, 0)), ("log", "b"), ("await", 5)])

    def test_replaced_without_a_program(self):
        wanted = {"value": ("loop", 2, ("log", "a"))}
        self.raises(BadProgram, wanted, replaced, ("loop", 2, ("await", 1)), (0,), ("log", "a"))


class Rounds(Case):
    def test_finish_and_last_round(self):
        found = [finish(P), last_round(P), finish(L), last_round(L), last_round(("await", 7))]
        self.exact(found, [1, 1, 2000000000000000000, 1999999999999999998, None])

    def test_marked(self):
        found = [
            marked(P, 0), marked(P, 1), marked(("race", (A, B)), 1), marked(("join", (A, B)), 1), words_in(P, 1),
        ]
        self.exact(found, [("a",), ("b", "c", None), (None, "b"), ("b", None), ("b", "c")])

    def test_marked_far(self):
        found = [marked(L, 10 ** 18), marked(L, 10 ** 18 + 1), marked(L, 2 * 10 ** 18)]
        self.exact(found, [("x",), (), (None,)])


class Forms(Case):
    ONE, OTHER = (1, (("a",), (None, "b"))), (0, (("c", None),))

    def test_form_of(self):
        found = [form_of(P), form_of(("race", (A, B))), is_form((0, ((None,), (None,))))]
        self.exact(found, [(1, (("a",), ("b", "c", None))), (1, (("a",), (None, "b"))), False])

    def test_form_of_a_long_loop(self):
        self.raises(TooLong, {"limit": 24}, form_of, L)

    def test_program_of(self):
        form = (2, (("a",), (), ("b", None, "c"), (None, "d")))
        self.exact(form_of(program_of(form)), (2, (("a",), (), ("b", None, "c"), (None, "d"))))

    def test_then_forked_repeated(self):
        found = [then(self.ONE, self.OTHER), forked(self.ONE), repeated(self.ONE, 2)]
        wanted = [
            (1, (("a",), ("c", None, "b"))), (0, (("a", None), ("b", None))), (2, (("a",), ("a", "b"), (None, "b"))),
        ]
        self.exact(found, wanted)

    def test_joined_raced(self):
        found = [joined((self.ONE, self.OTHER)), raced((self.ONE, self.OTHER))]
        self.exact(found, [(1, (("a", "c"), (None, "b"))), (0, (("a", "c", None), ("b", None)))])
