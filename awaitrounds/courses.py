"""Courses: what a program or a form does round by round.

The rules that follow from the meaning of a run stand here once. A course is its finish and its
strands. A strand is the word of one log node and the rounds in which it is logged, at even
distances. Which one of two strands stands first does not depend on the round, so the strands of a
course stand in one order: in each round, its words are those of the strands that speak in it.
Some strands stand ahead of the gap, the others behind it. Before the finish there is no gap, and
nothing that follows could stand between them.
"""

from math import lcm


class Strand:
    """A word that is logged in the rounds first, first + step and so on, many times (at least once)."""

    def __init__(self, word, first, step, many):
        self.word = word
        self.first = first
        self.step = step
        self.many = many
        self.last = first + (many - 1) * step

    def speaks(self, at):
        """Whether the word is logged in a round."""
        return self.first <= at <= self.last and (at - self.first) % self.step == 0

    def before(self, at):
        """How many times the word is logged in the rounds below one."""
        if at <= self.first:
            return 0
        return min(self.many, (at - 1 - self.first) // self.step + 1)

    def next_round(self, at):
        """The first round from a round on in which the word is logged, None if there is none."""
        number = self.before(at)
        if number == self.many:
            return None
        return self.first + number * self.step

    def moved(self, by):
        """The strand that begins so many rounds later."""
        return Strand(self.word, self.first + by, self.step, self.many)

    def singles(self):
        """The strand as strands with one entry each."""
        return [once(self.word, at) for at in range(self.first, self.last + 1, self.step)]


class Course:
    """A finish, the strands ahead of the gap and those behind it."""

    def __init__(self, finish, ahead, behind):
        self.finish = finish
        self.ahead = ahead
        self.behind = behind

    def all_strands(self):
        """All strands, in the order in which they stand in each round."""
        return self.ahead + self.behind

    def total(self):
        """How many words are logged in all."""
        return sum([strand.many for strand in self.all_strands()])

    def last_round(self):
        """The last round in which a word is logged, None if there is none."""
        return max([strand.last for strand in self.all_strands()], default=None)

    def marked(self, at):
        """The words of a round, with None for the gap."""
        ahead = [strand.word for strand in self.ahead if strand.speaks(at)]
        behind = [strand.word for strand in self.behind if strand.speaks(at)]
        if at < self.finish:
            return (*ahead, *behind)
        return (*ahead, None, *behind)

    def changes(self):
        """Rounds, in any order, between which each strand either is silent or goes on at its distance."""
        ends = [0, self.finish]
        for strand in self.all_strands():
            ends.extend([strand.first, strand.last + 1])
        return ends

    def period(self, at):
        """After how many rounds the marked words come again, from a round up to the next change."""
        rounds = 1
        for strand in self.all_strands():
            if strand.first <= at <= strand.last:
                rounds = lcm(rounds, strand.step)
        return rounds


def once(word, at):
    """The strand of a word that is logged once."""
    return Strand(word, at, 1, 1)


def word_course(word):
    """The course of a log."""
    return Course(0, [once(word, 0)], [])


def silent_course(rounds):
    """The course of an await."""
    return Course(rounds, [], [])


def detached_course(part):
    """The course of the fork of a course."""
    return Course(0, part.all_strands(), [])


def turned_course(parts):
    """The course of the seq of courses."""
    start = 0
    ahead, behind = [], []
    for part in parts:
        ahead.extend([strand.moved(start) for strand in part.ahead])
        behind = [strand.moved(start) for strand in part.behind] + behind
        start = start + part.finish
    return Course(start, ahead, behind)


def joined_course(parts):
    """The course of the join of courses."""
    finish, carrier = last_to_finish(parts)
    return beside_course(parts, finish, carrier)


def last_to_finish(parts):
    """The greatest finish of courses, and the index of the last one with it."""
    return max([(part.finish, index) for index, part in enumerate(parts)], default=(0, 0))


def raced_course(parts):
    """The course of the race of courses."""
    finish, carrier = first_to_finish(parts)
    return beside_course(parts, finish, carrier)


def first_to_finish(parts):
    """The least finish of courses, and the index of the first one with it."""
    return min([(part.finish, index) for index, part in enumerate(parts)], default=(0, 0))


def beside_course(parts, finish, carrier):
    """The course of courses side by side; the gap is that of the part with the index carrier."""
    ahead, behind = [], []
    for index, part in enumerate(parts):
        if index < carrier:
            ahead.extend(part.all_strands())
        elif index == carrier:
            ahead.extend(part.ahead)
            behind.extend(part.behind)
        else:
            behind.extend(part.all_strands())
    return Course(finish, ahead, behind)


def repeated_course(body, count):
    """The course of a loop.

    What a body logs later in its own rounds stands, in one round, for an earlier body: ahead of
    the gap this comes first, behind the gap it comes last.
    """
    step = body.finish
    if step == 0 or count == 0:
        return Course(0, body.ahead * count, body.behind * count)
    ahead = sorted(single_strands(body.ahead), key=lambda strand: -strand.first)
    behind = sorted(single_strands(body.behind), key=lambda strand: strand.first)
    return Course(count * step, over_and_over(ahead, step, count), over_and_over(behind, step, count))


def single_strands(strands):
    """The strands as strands with one entry each, in the same order."""
    return [single for strand in strands for single in strand.singles()]


def over_and_over(singles, step, count):
    """The strands of single entries that come again so many times, at such a distance."""
    return [Strand(single.word, single.first, step, count) for single in singles]


def shown_course(form):
    """The course that a form shows."""
    finish, rows = form
    ahead, behind = [], []
    for at, row in enumerate(rows):
        gap = len(row) if at < finish else row.index(None)
        ahead.extend([once(word, at) for word in row[:gap]])
        behind.extend([once(word, at) for word in row[gap + 1:]])
    return Course(finish, ahead, behind)


def course_of(program):
    """The course of a program."""
    kind = program[0]
    if kind == "log":
        return word_course(program[1])
    if kind == "await":
        return silent_course(program[1])
    if kind == "fork":
        return detached_course(course_of(program[1]))
    if kind == "loop":
        return repeated_course(course_of(program[2]), program[1])
    parts = [course_of(part) for part in program[1]]
    if kind == "seq":
        return turned_course(parts)
    if kind == "join":
        return joined_course(parts)
    return raced_course(parts)
