"""Rounds: when a program finishes, and what it logs in each round."""

from awaitrounds.courses import course_of


def finish(program):
    """The round in which a program finishes."""
    return course_of(program).finish


def last_round(program):
    """The last round in which a program logs a word, None if it logs none."""
    return course_of(program).last_round()


def marked(program, at):
    """The words of a program in a round, with None for the gap."""
    return course_of(program).marked(at)


def words_in(program, at):
    """The words of a program in a round."""
    return tuple([word for word in marked(program, at) if word is not None])
