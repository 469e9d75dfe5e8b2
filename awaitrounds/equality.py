"""Equality: whether two programs can be told apart, and how."""

from math import lcm

from awaitrounds.courses import course_of, silent_course, turned_course, word_course
from awaitrounds.logs import Log
from awaitrounds.values import is_number

BEHIND_MARK = 0
BESIDE_MARK = 1


def same(one, other):
    """Whether two programs have the same marked words in every round."""
    return first_difference(one, other) is None


def first_difference(one, other):
    """The least round in which two programs have unlike marked words and the least index there, None if they agree."""
    return difference(course_of(one), course_of(other))


def difference(one, other):
    """The first difference of two courses, None if there is none."""
    starts = sorted(set(one.changes() + other.changes()))
    for index, start in enumerate(starts):
        # From here on all comes again up to the next change, so that a look at the first turn is enough.
        stop = start + lcm(one.period(start), other.period(start))
        if index + 1 < len(starts):
            stop = min(stop, starts[index + 1])
        for at in range(start, stop):
            unlike = first_unlike(one.marked(at), other.marked(at))
            if unlike is not None:
                return at, unlike
    return None


def first_unlike(one, other):
    """The least index at which two tuples are not equal or one of them ends, None if they are equal."""
    if one == other:
        return None
    for index, (item, counterpart) in enumerate(zip(one, other)):
        if item != counterpart:
            return index
    return min(len(one), len(other))


def changes(program):
    """Ascending rounds from 0: up to the next one, the marked words of r and of r + 60 are equal."""
    return tuple(sorted(set(course_of(program).changes())))


def marked_log(course, test):
    """The test log of a course."""
    behind, beside = test
    courses = [course]
    if behind is not None:
        courses = [turned_course([course, silent_course(behind), word_course(BEHIND_MARK)])]
    if beside is not None:
        courses.append(turned_course([silent_course(beside), word_course(BESIDE_MARK)]))
    return Log(courses)


def test_entry(program, test, number):
    """The entry of the test log with this number, None if there is none."""
    log = marked_log(course_of(program), test)
    if not log.has(number):
        return None
    return log.strands[log.located(number)[1]].word


def teller(one, other):
    """A test and a number that tell two programs apart, None if nothing does.

    Up to the round of the first difference both log the same. In this round the mark behind the
    program takes the place of the gap, and the mark beside it shows where the round ends: so the
    first difference of the marked words is one of the test logs.
    """
    first, second = course_of(one), course_of(other)
    found = difference(first, second)
    if found is None:
        return None
    at, index = found
    finished = min(first.finish, second.finish)
    behind = at - finished if finished <= at else None
    return (behind, at), Log([first]).before(at) + index


def shows_teller(one, other, value):
    """Whether any value is a test and a number that tell two programs apart."""
    if not isinstance(value, tuple) or len(value) != 2:
        return False
    test, number = value
    if not is_test(test) or not is_number(number):
        return False
    return test_entry(one, test, number) != test_entry(other, test, number)


def is_test(value):
    """Whether any value is a test."""
    if not isinstance(value, tuple) or len(value) != 2:
        return False
    return all([mark is None or is_number(mark) for mark in value])
