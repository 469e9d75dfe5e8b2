"""Counts and entries: the log of a program that runs alone."""

from awaitrounds.courses import course_of
from awaitrounds.errors import NoEntry
from awaitrounds.logs import Log, check_range


def log_of(program):
    """The log of a program."""
    return Log([course_of(program)])


def total(program):
    """How many entries the log of a program has."""
    return log_of(program).total()


def count_before(program, at):
    """How many entries a program logs in the rounds below one."""
    return log_of(program).before(at)


def entry(program, number):
    """The round and the word of an entry of the log of a program."""
    log = log_of(program)
    if not log.has(number):
        raise NoEntry(number)
    at, index = log.located(number)
    return at, log.strands[index].word


def entries(program, start, stop):
    """The words of the entries from number start to number stop - 1, as far as there are some."""
    check_range(start, stop)
    log = log_of(program)
    return tuple([log.strands[index].word for _, index in log.between(start, stop)])
