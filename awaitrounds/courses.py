"""Courses: what a program or a form does round by round.

The rules that follow from the meaning of a run stand here once. A course knows its finish, the
last round in which it logs a word (None without words), how many words it logs in all, and its
two sides in each round: the words ahead of the gap and the words behind it. Before its finish a
course has no gap; all its words of such a round count as ahead.
"""


class Course:
    """A course that logs nothing, as an await; the other courses are made from it."""

    def __init__(self, finish, last, many):
        self.finish = finish
        self.last = last
        self.many = many

    def sides(self, at):
        """The words ahead of the gap and those behind it in a round."""
        return (), ()

    def word_rounds(self):
        """The rounds of all words, one for each word, in any order."""
        return []

    def marked(self, at):
        """The words of a round, with None for the gap."""
        ahead, behind = self.sides(at)
        if at < self.finish:
            return ahead
        return (*ahead, None, *behind)

    def parted(self, at, ahead, behind):
        """The sides of a round as tuples, without a gap ahead of the finish."""
        if at < self.finish:
            return (*ahead, *behind), ()
        return tuple(ahead), tuple(behind)


class Word(Course):
    """The course of a log."""

    def __init__(self, word):
        Course.__init__(self, 0, 0, 1)
        self.word = word

    def sides(self, at):
        if at > 0:
            return (), ()
        return (self.word,), ()

    def word_rounds(self):
        return [0]


class Detached(Course):
    """The course of a fork."""

    def __init__(self, part):
        Course.__init__(self, 0, part.last, part.many)
        self.part = part

    def sides(self, at):
        ahead, behind = self.part.sides(at)
        return (*ahead, *behind), ()

    def word_rounds(self):
        return self.part.word_rounds()


class InTurn(Course):
    """The course of a seq."""

    def __init__(self, parts):
        starts = [0]
        for part in parts:
            starts.append(starts[-1] + part.finish)
        self.timed = list(zip(starts, parts))
        last = max([start + part.last for start, part in self.timed if part.last is not None], default=None)
        Course.__init__(self, starts[-1], last, sum([part.many for part in parts]))

    def sides(self, at):
        ahead, behind = [], []
        for start, part in self.timed:
            if at < start:
                break
            first, second = part.sides(at - start)
            ahead.extend(first)
            behind = [*second, *behind]
        return self.parted(at, ahead, behind)

    def word_rounds(self):
        return [start + at for start, part in self.timed for at in part.word_rounds()]


class Beside(Course):
    """The course of a join or a race: the gap is that of the part with the index carrier."""

    def __init__(self, parts, finish, carrier):
        last = max([part.last for part in parts if part.last is not None], default=None)
        Course.__init__(self, finish, last, sum([part.many for part in parts]))
        self.parts = parts
        self.carrier = carrier

    def sides(self, at):
        ahead, behind = [], []
        for index, part in enumerate(self.parts):
            first, second = part.sides(at)
            if index < self.carrier:
                ahead.extend([*first, *second])
            elif index == self.carrier:
                ahead.extend(first)
                behind.extend(second)
            else:
                behind.extend([*first, *second])
        return self.parted(at, ahead, behind)

    def word_rounds(self):
        return [at for part in self.parts for at in part.word_rounds()]


class Repeated(Course):
    """The course of a loop."""

    def __init__(self, body, count):
        last = None
        if body.last is not None and count > 0:
            last = (count - 1) * body.finish + body.last
        Course.__init__(self, count * body.finish, last, count * body.many)
        self.body = body
        self.count = count
        self.rounds = body.word_rounds()

    def sides(self, at):
        step = self.body.finish
        if step == 0:
            ahead, behind = self.body.sides(at)
            return ahead * self.count, behind * self.count
        ahead, behind = [], []
        for index in self.speaking(at):
            first, second = self.body.sides(at - index * step)
            ahead.extend(first)
            behind = [*second, *behind]
        return self.parted(at, ahead, behind)

    def speaking(self, at):
        """The ascending indexes of the bodies that log a word in a round.

        Looking only at these keeps a loop of 10 ** 18 bodies as quick as a short one.
        """
        step = self.body.finish
        ages = [at - own for own in self.rounds if 0 <= at - own < self.finish]
        return sorted({age // step for age in ages if age % step == 0})

    def word_rounds(self):
        step = self.body.finish
        return [index * step + own for index in range(self.count) for own in self.rounds]


class Given(Course):
    """The course that a form shows."""

    def __init__(self, form):
        finish, rows = form
        self.rows = rows
        self.rounds = [at for at, row in enumerate(rows) for word in row if word is not None]
        Course.__init__(self, finish, max(self.rounds, default=None), len(self.rounds))

    def sides(self, at):
        if at >= len(self.rows):
            return (), ()
        row = self.rows[at]
        if at < self.finish:
            return row, ()
        gap = row.index(None)
        return row[:gap], row[gap + 1:]

    def word_rounds(self):
        return self.rounds


def joined_course(parts):
    """The course of the join of courses."""
    finish, carrier = max([(part.finish, index) for index, part in enumerate(parts)], default=(0, 0))
    return Beside(parts, finish, carrier)


def raced_course(parts):
    """The course of the race of courses."""
    finish, carrier = min([(part.finish, index) for index, part in enumerate(parts)], default=(0, 0))
    return Beside(parts, finish, carrier)


def course_of(program):
    """The course of a program."""
    kind = program[0]
    if kind == "log":
        return Word(program[1])
    if kind == "await":
        return Course(program[1], None, 0)
    if kind == "fork":
        return Detached(course_of(program[1]))
    if kind == "loop":
        return Repeated(course_of(program[2]), program[1])
    parts = [course_of(part) for part in program[1]]
    if kind == "seq":
        return InTurn(parts)
    if kind == "join":
        return joined_course(parts)
    return raced_course(parts)
