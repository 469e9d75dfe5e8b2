"""Texts of programs and companies: writing them and reading them back."""

from awaitrounds.company import MOST_PROGRAMS
from awaitrounds.errors import BadText
from awaitrounds.programs import MOST_COUNT, children, is_program

# How the text of a program may begin; none of these begins another one.
OPENINGS = ("log ", "await ", "seq(", "fork(", "join(", "race(", "loop ")
MOST_DIGITS = 40


class Reader:
    """Reads the text of one program, and keeps the nodes that have begun and not ended yet, the outermost one first.

    The nodes stand in a list, and no method calls itself: a text may nest thousands of them.
    """

    def __init__(self, text):
        self.text = text
        self.at = 0
        self.begun = []

    def whole(self):
        """The program that the whole text shows, whether it keeps to the limits or not."""
        program = self.begin()
        while self.begun != []:
            program = self.begin() if program is None else self.put(program)
        if self.at < len(self.text):
            raise BadText(self.at)
        return program

    def begin(self):
        """Reads how a program begins; returns it if this is all of it, None if a part comes next."""
        kind = self.opening()
        if kind == "log":
            return ("log", self.signs("a", "z"))
        if kind == "await":
            return ("await", self.number())
        if kind == "loop":
            self.begun.append((("loop", self.number()), []))
            self.take(" ")
        elif kind != "fork" and self.sign() == ")":
            self.take(")")
            return (kind, ())
        else:
            self.begun.append(((kind,), []))
        return None

    def put(self, program):
        """Puts a program into the innermost node; returns this node if it has ended, None if a part comes next."""
        head, parts = self.begun[-1]
        parts.append(program)
        kind = head[0]
        if kind != "loop" and kind != "fork" and self.sign() == ";":
            self.take(";")
            self.take(" ")
            return None
        if kind != "loop":
            self.take(")")
        self.begun.pop()
        if kind == "loop" or kind == "fork":
            return (*head, program)
        return (kind, tuple(parts))

    def opening(self):
        """Reads what a program begins with; returns its kind."""
        start = self.at
        while True:
            read = self.text[start:self.at + 1]
            if self.sign() == "" or not any([word.startswith(read) for word in OPENINGS]):
                raise BadText(self.at)
            self.at = self.at + 1
            if read in OPENINGS:
                return read[:-1]

    def number(self):
        """Reads a number, which has no leading zeros."""
        if self.sign() == "0":
            self.take("0")
            return 0
        digits = self.signs("0", "9")
        # Python reads no number of thousands of digits. One beyond the limits makes no program, whatever its value.
        return int(digits) if len(digits) <= MOST_DIGITS else MOST_COUNT + 1

    def signs(self, least, most):
        """Reads signs from least to most as long as there are some, at least one."""
        start = self.at
        while least <= self.sign() <= most:
            self.at = self.at + 1
        if self.at == start:
            raise BadText(start)
        return self.text[start:self.at]

    def take(self, sign):
        """Reads this very sign."""
        if self.sign() != sign:
            raise BadText(self.at)
        self.at = self.at + 1

    def sign(self):
        """The next sign, the empty text at the end."""
        return self.text[self.at:self.at + 1]


def show_program(program):
    """The text of a program."""
    kind = program[0]
    if kind == "log":
        return "log " + program[1]
    if kind == "await":
        return "await " + str(program[1])
    if kind == "loop":
        return "loop " + str(program[1]) + " " + show_program(program[2])
    return kind + "(" + "; ".join([show_program(part) for part in children(program)]) + ")"


def show_company(company):
    """The text of a company."""
    return "\n".join([show_program(program) for program in company])


def read_program(text):
    """The program with a text, any value."""
    if not isinstance(text, str):
        raise BadText(0)
    program = Reader(text).whole()
    if not is_program(program):
        raise BadText(len(text))
    return program


def read_company(text):
    """The company with a text, any value."""
    if not isinstance(text, str):
        raise BadText(0)
    programs = []
    for index, line in enumerate(text.split("\n")):
        if index == MOST_PROGRAMS:
            raise BadText(index)
        programs.append(read_line(line, index))
    return tuple(programs)


def read_line(line, index):
    """The program with the text of a line; the index of the line takes the place of a position in it."""
    try:
        return read_program(line)
    except BadText:
        raise BadText(index) from None
