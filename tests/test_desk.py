"""A desk: lines, their answers and their errors."""

import random
import re

from awaitrounds.company import company_entries
from awaitrounds.counts import entry, total
from awaitrounds.desk import Desk
from awaitrounds.equality import first_difference, same
from awaitrounds.errors import BadLine, BadText, NoEntry, NoName, TooMany
from awaitrounds.rounds import finish, last_round, marked
from awaitrounds.texts import read_program, show_program
from tests.checks import ODD_VALUES, Case
from tests.drawing import drawn_program, drawn_programs, near
from tests.text_check import first_wrong

NAME, NUMBER = "[a-z]{1,8}", "(?:0|[1-9][0-9]{0,39})"
FORMS = [
    re.compile(form, re.DOTALL) for form in (
        f"let {NAME} .*", f"forget {NAME}", "names", f"show {NAME}", f"finish {NAME}", f"total {NAME}",
        f"round {NAME} {NUMBER}", f"entry {NAME} {NUMBER}", f"same {NAME} {NAME}",
        f"company {NUMBER} {NUMBER}(?: {NAME}){{1,8}}",
    )
]
FAR = 10 ** 18
TEXTS = {
    "p": "race(seq(log a; await 1); seq(await 1; log b))", "q": "log z", "r": "loop 1000000000000000000 seq(log x; await 2)",
    "names": "seq()", "abcdefgh": "await 7", "s": "seq(fork(seq(await 1; log b)); log a; await 1; log c)",
}
LINES = (
    "let p log a", "let a seq(log a; await 1)", "let b  ", "forget p", "names", "show q", "show names", "finish r",
    "total abcdefgh", "round p 1", "round r 1000000000000000000", "entry p 1", "entry r 17", "same p q", "same s s",
    "company 0 9 p q", "company 5 5 r", "company 0 2000 r s p q names abcdefgh p p", "entry q 1", "show nobody",
    "forget nobody", "same q nobody", "company 3 2004 r", "company 0 1 nobody p",
)


def has_form(line):
    """Whether a line has one of the forms."""
    if not any(form.fullmatch(line) for form in FORMS):
        return False
    words = line.split(" ")
    return words[0] != "company" or int(words[1]) <= int(words[2])


def filled(texts=None):
    """A desk with named programs."""
    desk = Desk()
    for name, text in (texts or TEXTS).items():
        assert desk.say(f"let {name} {text}") == "ok"
    return desk


def contents(desk):
    """All that a desk keeps."""
    names = desk.say("names")
    return [] if names == "-" else [(name, desk.say(f"show {name}")) for name in names.split(" ")]


class DeskCase(Case):
    def unchanged(self, desk, error, attributes, line):
        """A line is refused, and the desk keeps what it kept."""
        before = contents(desk)
        self.raises(error, attributes, desk.say, line)
        self.exact(contents(desk), before)

    def bad_line(self, desk, line):
        self.unchanged(desk, BadLine, {"line": line}, line)


class Keeping(DeskCase):
    def test_let_show_and_names(self):
        desk = Desk()
        self.exact(desk.say("names"), "-")
        self.exact([desk.say("let b log a"), desk.say("let a seq()"), desk.say("names")], ["ok", "ok", "a b"])
        self.exact([desk.say("show a"), desk.say("show b")], ["seq()", "log a"])
        self.exact([desk.say("let abcdefgh await 3"), desk.say("names")], ["ok", "a abcdefgh b"])

    def test_in_the_place_of_an_earlier_one(self):
        desk = filled()
        self.exact([desk.say("let p await 2"), desk.say("show p"), desk.say("finish p")], ["ok", "await 2", "2"])
        self.exact(desk.say("names"), "abcdefgh names p q r s")

    def test_forget(self):
        desk = filled({"a": "log a", "b": "log b"})
        self.exact([desk.say("forget a"), desk.say("names")], ["ok", "b"])
        self.unchanged(desk, NoName, {"name": "a"}, "show a")
        self.unchanged(desk, NoName, {"name": "a"}, "forget a")
        self.exact([desk.say("forget b"), desk.say("names")], ["ok", "-"])
        self.exact([desk.say("let a log c"), desk.say("show a")], ["ok", "log c"])

    def test_names_that_are_first_words_of_lines(self):
        words = ("let", "forget", "names", "show", "finish", "total", "round", "entry", "same", "company", "ok", "log")
        desk = filled({word: f"log {word[:8]}" for word in words})
        self.exact(desk.say("names"), " ".join(sorted(words)))
        for word in words:
            self.exact([desk.say(f"show {word}"), desk.say(f"round {word} 0")], [f"log {word}", f"{word} _"])
            self.exact([desk.say(f"company 0 1 {word}"), desk.say(f"forget {word}")], [f"0:{word}", "ok"])
        self.exact(desk.say("names"), "-")

    def test_desks_are_apart(self):
        one, other = filled({"a": "log a"}), Desk()
        self.exact([one.say("names"), other.say("names")], ["a", "-"])
        other.say("let a log b")
        self.exact([one.say("show a"), other.say("show a")], ["log a", "log b"])

    def test_refused_texts(self):
        for text in ("", " ", "x", "log a ", " log a", "log a\n", "await 0", "await 00", "join()", "seq(log a;log b)",
                     "loop 2 log a", "fork(log a", "log abcdefghi", "fork(" * 3000 + "log a" + ")" * 3000,
                     "await " + "5" * 5000, "let p log a", "log a" + " " * 30, "seq( )", "\n", "log\ta"):
            wrong = first_wrong(text)
            for name in ("p", "fresh"):
                self.unchanged(filled(), BadText, {"position": len(text) if wrong is None else wrong}, f"let {name} {text}")

    def test_the_text_is_all_that_follows_the_blank(self):
        desk = Desk()
        self.unchanged(desk, BadText, {"position": 0}, "let p ")
        self.unchanged(desk, BadText, {"position": 0}, "let p  ")
        self.unchanged(desk, BadText, {"position": 0}, "let p  log a")
        self.unchanged(desk, BadText, {"position": 4}, "let p log  a")
        self.bad_line(desk, "let p")
        self.bad_line(desk, "let  p log a")
        self.bad_line(desk, "let ")
        self.bad_line(desk, "let  log a")
        self.bad_line(desk, "let P log a")
        self.bad_line(desk, "let p\nlog a")
        self.bad_line(desk, " let p log a")
        self.exact([desk.say("let p seq(log a; log b)"), desk.say("show p")], ["ok", "seq(log a; log b)"])


class Answers(DeskCase):
    def test_by_hand(self):
        desk = filled()
        for line, wanted in (
            ("finish r", str(2 * FAR)), ("total r", str(FAR)), ("finish q", "0"), ("total names", "0"),
            ("round p 0", "a"), ("round p 1", "_ b"), ("round p 2", "_"), ("round q 0", "z _"), ("round abcdefgh 6", "-"),
            ("round s 1", "b c _"), ("round r 1", "-"), (f"round r {FAR}", "x"), ("round p " + "9" * 40, "_"),
            ("entry p 0", "0 a"), ("entry p 1", "1 b"), (f"entry r {10 ** 17}", f"{2 * 10 ** 17} x"), ("same p p", "yes"),
            ("same p q", "no 0 0"), ("same q names", "no 0 0"), ("same abcdefgh names", "no 0 0"), ("same s p", "no 1 0"),
            ("company 0 0 p", "-"), ("company 5 9 p", "-"), ("company 0 9 p q", "0:a 1:z 0:b"), ("company 1 2 p q", "1:z"),
            ("company 0 4 q q q q q q q q", "0:z 1:z 2:z 3:z"), ("company 7 2007 q q q q q q q q", "7:z"),
            (f"company {FAR} {FAR + 2} r s r", "2:x 0:x"), ("company " + "9" * 40 + " " + "9" * 40 + " r", "-"),
            ("show s", TEXTS["s"]), ("names", "abcdefgh names p q r s"),
        ):
            self.exact([line, desk.say(line)], [line, wanted])

    def test_drawn_programs(self):
        source = random.Random(2501)
        programs = drawn_programs(2502, 200, 1, 30)
        for at in range(0, len(programs), 4):
            kept = dict(zip("abcd", programs[at:at + 3]))
            kept["d"] = near(source, kept["a"])
            desk = filled({name: show_program(program) for name, program in kept.items()})
            for name, program in kept.items():
                self.check_one(desk, name, program)
                for other in kept:
                    self.check_two(desk, name, other, program, kept[other])
            for _ in range(6):
                names = [source.choice("abcd") for _ in range(source.randint(1, 8))]
                start = source.randint(0, 12)
                stop = start + source.randint(0, 30)
                found = company_entries(tuple(kept[name] for name in names), start, stop)
                wanted = " ".join(f"{index}:{word}" for index, word in found) or "-"
                self.exact(desk.say(f"company {start} {stop} {' '.join(names)}"), wanted)

    def check_one(self, desk, name, program):
        found = [desk.say(f"show {name}"), desk.say(f"finish {name}"), desk.say(f"total {name}")]
        self.exact(found, [show_program(program), str(finish(program)), str(total(program))])
        for at in range(min(30, max(finish(program), last_round(program) or 0) + 2)):
            words = ["_" if word is None else word for word in marked(program, at)]
            self.exact(desk.say(f"round {name} {at}"), " ".join(words) or "-")
        for number in range(min(20, total(program))):
            at, word = entry(program, number)
            self.exact(desk.say(f"entry {name} {number}"), f"{at} {word}")
        self.unchanged(desk, NoEntry, {"number": total(program)}, f"entry {name} {total(program)}")

    def check_two(self, desk, name, opposite, one, other):
        difference = first_difference(one, other)
        wanted = "yes" if same(one, other) else f"no {difference[0]} {difference[1]}"
        self.exact(desk.say(f"same {name} {opposite}"), wanted)

    def test_questions_change_nothing(self):
        desk = filled()
        before = contents(desk)
        for line in LINES[4:18]:
            answer = desk.say(line)
            self.exact([desk.say(line), answer.__class__, contents(desk)], [answer, str, before])

    def test_as_a_plain_dict_would_do(self):
        source = random.Random(2503)
        desk, kept = Desk(), {}
        for _ in range(600):
            name = source.choice(("a", "b", "ab", "z", "abcdefgh"))
            if source.random() < 0.5:
                kept[name] = show_program(drawn_program(source, 5))
                self.exact(desk.say(f"let {name} {kept[name]}"), "ok")
            elif name in kept:
                del kept[name]
                self.exact(desk.say(f"forget {name}"), "ok")
            else:
                self.unchanged(desk, NoName, {"name": name}, f"forget {name}")
            self.exact(contents(desk), sorted(kept.items()))


class BadLines(DeskCase):
    def test_values_of_every_kind(self):
        for value in (*ODD_VALUES, 0, 1, (), ["names"], ("names",), {"names": 1}, ["let", "p", "log a"], 10 ** 40):
            self.bad_line(filled(), value)

    def test_the_very_value(self):
        line = ["names"]
        with self.assertRaises(BadLine) as caught:
            Desk().say(line)
        self.assertIs(caught.exception.line, line)

    def test_blanks(self):
        for line in LINES[3:]:
            for bad in (line + " ", " " + line, line + "\n", "\n" + line, "\t" + line, line.replace(" ", "\t")):
                if bad != line:
                    self.bad_line(filled(), bad)
            for at in range(len(line)):
                if line[at] == " ":
                    self.bad_line(filled(), line[:at] + " " + line[at:])

    def test_numbers(self):
        desk = filled()
        for number in ("", "00", "01", "007", "-1", "+1", "1.0", "1_0", "x", "0x1", "\u0661", "\u00b2", "1\n", "9" * 41,
                       "1" + "0" * 40, "0" * 40, "1e3", "_", "None"):
            for line in (f"round p {number}", f"entry p {number}", f"company {number} 5 p", f"company 0 {number} p"):
                self.bad_line(desk, line)
        self.exact([desk.say("round p " + "9" * 40), desk.say("round p " + "1" + "0" * 39)], ["_", "_"])
        self.unchanged(desk, NoEntry, {"number": 10 ** 40 - 1}, "entry p " + "9" * 40)
        self.unchanged(desk, TooMany, {"limit": 2000}, "company 0 " + "9" * 40 + " p")

    def test_names(self):
        desk = filled()
        for name in ("", "A", "pQ", "p1", "abcdefghi", "1", "_", "-", "\u00e4", "p\n", "p,"):
            for line in (f"let {name} log a", f"forget {name}", f"show {name}", f"finish {name}", f"total {name}",
                         f"round {name} 1", f"entry {name} 1", f"same {name} p", f"same p {name}",
                         f"company 0 1 {name}", f"company 0 1 p {name}", f"company 0 1 {name} p"):
                self.bad_line(desk, line)

    def test_other_first_words(self):
        desk = filled()
        for word in ("", "Let", "NAMES", "name", "lets", "list", "help", "log", "p", "seq()", "let,"):
            for rest in ("", " p", " p q", " p 1", " p log a", " 0 1 p"):
                self.bad_line(desk, word + rest)

    def test_too_few_and_too_many_words(self):
        desk = filled()
        for line in ("forget", "forget p q", "names p", "show", "show p q", "finish", "finish p 0", "total", "total p p",
                     "round p", "round 1", "round p 1 1", "round p q 1", "entry p", "entry p 1 q", "same", "same p",
                     "same p q r", "company", "company 0", "company 0 1", "company p", "company 0 p", "company p q",
                     "company 0 1 2 p", "company 0 1 p 2", "company p 0 1", "company 0 1 p p p p p p p p p", "let"):
            self.bad_line(desk, line)

    def test_the_second_number_below_the_first_one(self):
        desk = filled()
        self.exact([desk.say("company 1 1 p"), desk.say("company 1 2 p")], ["-", "0:b"])
        for line in ("company 1 0 p", "company 10 9 p", "company 9 8 nobody", f"company {FAR} {FAR - 1} p"):
            self.bad_line(desk, line)

    def test_changed_lines(self):
        source = random.Random(2504)
        bad = 0
        for _ in range(4000):
            line = changed_line(source, source.choice(LINES))
            desk = filled()
            if not has_form(line):
                bad += 1
                self.bad_line(desk, line)
                continue
            try:
                self.assertIsInstance(desk.say(line), str)
            except (NoName, BadText, NoEntry, TooMany) as error:
                self.check_error(line, error)
        self.assertGreater(bad, 1000)

    def check_error(self, line, error):
        """The error that a line with one of the forms has to have."""
        words = line.split(" ")
        missing = [word for word in words[1:] if not word.isdigit() and word not in TEXTS]
        if words[0] == "let":
            self.raises(BadText, {"position": error.position}, read_program, line.split(" ", 2)[2])
        elif missing and words[0] != "names":
            self.exact([error.__class__, error.name], [NoName, missing[0]])
        elif words[0] == "entry":
            self.exact([error.__class__, error.number], [NoEntry, int(words[2])])
        else:
            self.exact([words[0], error.__class__, error.limit], ["company", TooMany, 2000])
            self.assertGreater(int(words[2]) - int(words[1]), 2000)


def changed_line(source, line):
    """A line with a word left out, doubled, replaced or put in, two words exchanged, or with blanks at an end."""
    words = line.split(" ")
    at = source.randrange(len(words))
    other = source.randrange(len(words))
    word = source.choice(("p", "q", "0", "1", "5", "07", "names", "show", "same", "company", "let", "", "nobody", "a1"))
    exchanged = list(words)
    exchanged[at], exchanged[other] = words[other], words[at]
    return source.choice([
        " ".join(words[:at] + words[at + 1:]), " ".join(words[:at + 1] + words[at:]),
        " ".join(words[:at] + [word] + words[at + 1:]), " ".join(words[:at] + [word] + words[at:]), " ".join(exchanged),
        " " + line, line + " ", line[:source.randrange(len(line) + 1)],
    ])


class Order(DeskCase):
    """Which of several errors is raised."""

    def test_the_form_comes_first(self):
        desk = Desk()
        for line in ("round nobody 01", "entry nobody -1", "same nobody", "company 2 1 nobody", "show nobody ", "forget  x",
                     "company 0 1 nobody No", "finish nobody 1", "company 0 9000 a b c d e f g h i"):
            self.bad_line(desk, line)

    def test_the_first_name_that_is_not_kept(self):
        desk = filled()
        for line, name in (
            ("forget x", "x"), ("show x", "x"), ("finish x", "x"), ("total x", "x"), ("round x 0", "x"), ("entry x 9", "x"),
            ("same x y", "x"), ("same p y", "y"), ("same x p", "x"), ("company 0 1 p x q y", "x"), ("company 0 1 y", "y"),
            ("company 0 1 y x", "y"), ("company 0 1 p p p p p p p z", "z"), ("show ok", "ok"), ("show let", "let"),
        ):
            self.unchanged(desk, NoName, {"name": name}, line)

    def test_names_ahead_of_the_errors_of_the_functions(self):
        desk = filled()
        self.unchanged(desk, NoName, {"name": "x"}, "company 0 2001 p x")
        self.unchanged(desk, TooMany, {"limit": 2000}, "company 0 2001 p q")
        self.unchanged(desk, NoName, {"name": "x"}, "entry x 99999")
        self.unchanged(desk, NoEntry, {"number": 99999}, "entry p 99999")
        self.exact(desk.say("company 1 2001 p q"), "1:z 0:b")

    def test_a_name_that_is_let_need_not_be_kept(self):
        desk = Desk()
        self.unchanged(desk, BadText, {"position": 3}, "let x log")
        self.exact([desk.say("let x log a"), desk.say("names")], ["ok", "x"])

    def test_argument_by_name(self):
        self.exact(Desk().say(line="names"), "-")
        self.raises(BadLine, {"line": None}, Desk().say, line=None)
        self.exact("say" in vars(Desk), True)
