"""Companies: programs that one callback starts, and their common log."""

from awaitrounds.courses import course_of
from awaitrounds.errors import NoEntry, NoProgram
from awaitrounds.logs import Log, check_range
from awaitrounds.programs import is_program
from awaitrounds.values import is_index

MOST_PROGRAMS = 8


def is_company(value):
    """Whether any value is a company."""
    if not isinstance(value, tuple) or not 1 <= len(value) <= MOST_PROGRAMS:
        return False
    return all([is_program(program) for program in value])


def common_log(company):
    """The log of a company."""
    return Log([course_of(program) for program in company])


def foreign(company, program, at):
    """How many entries of the other programs are logged ahead of those of a program in a round."""
    return common_log(company[:program]).before(at + 1) + common_log(company[program + 1:]).before(at)


def company_total(company):
    """How many entries the log of a company has."""
    return common_log(company).total()


def company_entry(company, number):
    """The index of the program that logs an entry, its number in the log of this program, the round and the word."""
    log = common_log(company)
    if not log.has(number):
        raise NoEntry(number)
    at, index = log.located(number)
    program = log.owners[index]
    return program, number - foreign(company, program, at), at, log.strands[index].word


def company_entries(company, start, stop):
    """The program and the word of each of the entries from number start to stop - 1, as far as there are some."""
    check_range(start, stop)
    log = common_log(company)
    return tuple([(log.owners[index], log.strands[index].word) for _, index in log.between(start, stop)])


def company_number(company, program, own):
    """The number in the log of a company of an entry of a program."""
    if not is_index(program, len(company)):
        raise NoProgram(program)
    log = Log([course_of(company[program])])
    if not log.has(own):
        raise NoEntry(own)
    return own + foreign(company, program, log.round_of(own))


def as_program(company):
    """The join of the programs of a company."""
    return ("join", company)
