"""Forms: the finish and the marked words of programs in a few rounds."""

from awaitrounds.courses import Detached, Given, InTurn, Repeated, course_of, joined_course, raced_course
from awaitrounds.errors import TooLong, TooMany
from awaitrounds.programs import MOST_PARTS
from awaitrounds.values import is_integer, is_word

MOST_ROWS = 24
MOST_WORDS = 30


def is_form(value):
    """Whether any value is a form."""
    if not isinstance(value, tuple) or len(value) != 2:
        return False
    finish, rows = value
    if not is_integer(finish) or finish < 0 or not isinstance(rows, tuple):
        return False
    if not finish < len(rows) <= MOST_ROWS:
        return False
    if not all([is_row(row, at >= finish) for at, row in enumerate(rows)]):
        return False
    course = Given(value)
    if course.many > MOST_WORDS:
        return False
    return len(rows) == finish + 1 or course.last == len(rows) - 1


def is_row(value, has_gap):
    """Whether any value is a row of words, with the gap once or not at all."""
    if not isinstance(value, tuple):
        return False
    words = [item for item in value if item is not None]
    if len(value) - len(words) != (1 if has_gap else 0):
        return False
    return all([is_word(word) for word in words])


def shown(course):
    """The form that shows a course."""
    last = course.finish
    if course.last is not None:
        last = max(last, course.last)
    if last >= MOST_ROWS:
        raise TooLong(MOST_ROWS)
    if course.many > MOST_WORDS:
        raise TooMany(MOST_WORDS)
    return (course.finish, tuple([course.marked(at) for at in range(last + 1)]))


def form_of(program):
    """The form of a program."""
    return shown(course_of(program))


def program_of(form):
    """A program with this form.

    A detached chain logs the words ahead of the gap while an await leads up to the finish; a race
    adds a second chain behind it for the words behind the gap. That chain never finishes ahead of
    the await, and the race gives the gap to the first one of its parts.
    """
    course = Given(form)
    sides = [course.sides(at) for at in range(len(course.rows))]
    steps = [("fork", log_rows([ahead for ahead, behind in sides]))]
    if course.finish > 0:
        steps.append(("await", course.finish))
    main = ("seq", tuple(steps))
    if not any([behind for ahead, behind in sides]):
        return main
    return ("race", (main, log_rows([behind for ahead, behind in sides])))


def log_rows(rows):
    """A program that logs the words of each row in the round of its number."""
    steps = []
    reached = 0
    for at, words in enumerate(rows):
        if words and at > reached:
            steps.append(("await", at - reached))
            reached = at
        steps.extend([("log", word) for word in words])
    return one_seq(steps)


def one_seq(steps):
    """A seq that does any number of steps, in as many levels as this takes."""
    while len(steps) > MOST_PARTS:
        steps = [("seq", tuple(steps[at:at + MOST_PARTS])) for at in range(0, len(steps), MOST_PARTS)]
    return ("seq", tuple(steps))


def then(one, other):
    """The form of the seq of two programs with these forms."""
    return shown(InTurn([Given(one), Given(other)]))


def forked(form):
    """The form of the fork of a program with this form."""
    return shown(Detached(Given(form)))


def joined(forms):
    """The form of the join of programs with these forms."""
    return shown(joined_course([Given(form) for form in forms]))


def raced(forms):
    """The form of the race of programs with these forms."""
    return shown(raced_course([Given(form) for form in forms]))


def repeated(form, count):
    """The form of a seq of count programs with this form."""
    return shown(Repeated(Given(form), count))
