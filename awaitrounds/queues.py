"""Queues: callbacks that run step by step, and actions that can be taken back."""

from awaitrounds.company import is_company
from awaitrounds.errors import BadCompany, BadProgram, EmptyQueue, NothingToUndo, TooMany
from awaitrounds.programs import is_program
from awaitrounds.tapes import Tape

MOST_KNOWN = 40


class Queue:
    """A queue with one callback, which starts the programs of a company."""

    def __init__(self, company):
        if not is_company(company):
            raise BadCompany(company)
        self.company = company
        self.tape = Tape()
        self.tape.begin_company(company)

    def call_next(self):
        """Runs the first callback; returns the tuple of (program, word) that it logs."""
        if self.waiting() == 0:
            raise EmptyQueue()
        self.tape.mark()
        before = len(self.tape.words)
        self.tape.run_next()
        return tuple(self.tape.words[before:])

    def run(self, limit):
        """Runs so many callbacks, or fewer if the queue is empty then; returns how many have run."""
        self.tape.mark()
        before = self.calls()
        while self.calls() - before < limit and self.waiting() > 0:
            self.tape.run_next()
        return self.calls() - before

    def add(self, program):
        """Puts a callback that starts one more program, any value; returns the index of the program."""
        if not is_program(program):
            raise BadProgram(program)
        if len(self.tape.known) >= MOST_KNOWN:
            raise TooMany(MOST_KNOWN)
        self.tape.mark()
        self.tape.begin_one(program)
        return len(self.tape.known) - 1

    def undo(self):
        """Takes back the last action that was not taken back."""
        if len(self) == 0:
            raise NothingToUndo()
        self.tape.go_back()

    def waiting(self):
        """How many callbacks are in the queue."""
        return self.tape.waiting()

    def calls(self):
        """How many callbacks have run and were not taken back."""
        return self.tape.ran

    def log(self):
        """The tuple of all (program, word) so far."""
        return tuple(self.tape.words)

    def finished(self):
        """The ascending tuple of the indexes of the programs that have finished."""
        return tuple(sorted(self.tape.ended))

    def programs(self):
        """The tuple of all programs."""
        return tuple(self.tape.known)

    def trial(self, look):
        """Calls look with this queue, and leaves the queue as it was; returns what look returns."""
        kept = self.tape
        self.tape = kept.copied()
        try:
            return look(self)
        finally:
            self.tape = kept

    def copy(self):
        """An independent queue in the same state."""
        twin = Queue(self.company)
        twin.tape = self.tape.copied()
        return twin

    def __len__(self):
        return len(self.tape.marks)

    def __eq__(self, other):
        if not isinstance(other, Queue):
            return False
        # What has run follows from the programs and from the number of callbacks that ran before each one came.
        if self.tape.known != other.tape.known or self.tape.added != other.tape.added:
            return False
        return self.tape.ran == other.tape.ran
