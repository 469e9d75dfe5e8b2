"""Forms: the finish and the marked words of programs in a few rounds."""

from awaitrounds.courses import (
    course_of, detached_course, joined_course, raced_course, repeated_course, shown_course, turned_course,
)
from awaitrounds.errors import TooLong, TooMany
from awaitrounds.programs import MOST_PARTS
from awaitrounds.values import is_integer, is_word

MOST_ROWS = 24
MOST_WORDS = 30


def is_form(value):
    """Whether any value is a form."""
    if not isinstance(value, tuple) or len(value) != 2:
        return False
    finish, rows = value
    if not is_integer(finish) or finish < 0 or not isinstance(rows, tuple):
        return False
    if not finish < len(rows) <= MOST_ROWS:
        return False
    if not all([is_row(row, at >= finish) for at, row in enumerate(rows)]):
        return False
    course = shown_course(value)
    if course.total() > MOST_WORDS:
        return False
    return len(rows) == finish + 1 or course.last_round() == len(rows) - 1


def is_row(value, has_gap):
    """Whether any value is a row of words, with the gap once or not at all."""
    if not isinstance(value, tuple):
        return False
    words = [item for item in value if item is not None]
    if len(value) - len(words) != (1 if has_gap else 0):
        return False
    return all([is_word(word) for word in words])


def form_that_shows(course):
    """The form that shows a course."""
    last = max(course.finish, course.last_round() or 0)
    if last >= MOST_ROWS:
        raise TooLong(MOST_ROWS)
    if course.total() > MOST_WORDS:
        raise TooMany(MOST_WORDS)
    return (course.finish, tuple([course.marked(at) for at in range(last + 1)]))


def form_of(program):
    """The form of a program."""
    return form_that_shows(course_of(program))


def program_of(form):
    """A program with this form.

    A detached chain logs the words ahead of the gap while an await leads up to the finish; a race
    adds a second chain behind it for the words behind the gap. That chain never finishes ahead of
    the await, and the race gives the gap to the first one of its parts.
    """
    course = shown_course(form)
    steps = [("fork", one_chain(course.ahead))]
    if course.finish > 0:
        steps.append(("await", course.finish))
    main = ("seq", tuple(steps))
    if not course.behind:
        return main
    return ("race", (main, one_chain(course.behind)))


def one_chain(strands):
    """A program that logs strands with one entry each, which come in ascending rounds."""
    steps = []
    reached = 0
    for strand in strands:
        if strand.first > reached:
            steps.append(("await", strand.first - reached))
            reached = strand.first
        steps.append(("log", strand.word))
    return one_seq(steps)


def one_seq(steps):
    """A seq that does any number of steps, in as many levels as this takes."""
    while len(steps) > MOST_PARTS:
        steps = [("seq", tuple(steps[at:at + MOST_PARTS])) for at in range(0, len(steps), MOST_PARTS)]
    return ("seq", tuple(steps))


def then(one, other):
    """The form of the seq of two programs with these forms."""
    return form_that_shows(turned_course([shown_course(one), shown_course(other)]))


def forked(form):
    """The form of the fork of a program with this form."""
    return form_that_shows(detached_course(shown_course(form)))


def joined(forms):
    """The form of the join of programs with these forms."""
    return form_that_shows(joined_course([shown_course(form) for form in forms]))


def raced(forms):
    """The form of the race of programs with these forms."""
    return form_that_shows(raced_course([shown_course(form) for form in forms]))


def repeated(form, count):
    """The form of a seq of count programs with this form."""
    return form_that_shows(repeated_course(shown_course(form), count))
