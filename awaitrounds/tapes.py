"""Tapes: what a queue has run and what it is still to run.

What is to run is written as a chain: None, or (node, chain), a program and what follows it. A join
or race stands in it as ("beside", parts, carrier): by the rules for rounds, its finish is always
that of one and the same part, the carrier. So nothing has to be counted while the parts run, a
chain never changes, and taking back is cutting off.
"""

from awaitrounds.courses import course_of, first_to_finish, last_to_finish
from awaitrounds.programs import children, with_children


def prepared(program):
    """A program with the carriers of its joins and races looked up."""
    kind = program[0]
    parts = tuple([prepared(child) for child in children(program)])
    if kind == "join":
        return ("beside", parts, last_to_finish([course_of(part) for part in program[1]])[1])
    if kind == "race":
        return ("beside", parts, first_to_finish([course_of(part) for part in program[1]])[1])
    return with_children(program, parts)


def opened(node, follow):
    """The chains that a seq, a fork, a loop or parts side by side run, each one as far as it goes."""
    kind = node[0]
    if kind == "seq":
        for part in node[1][::-1]:
            follow = (part, follow)
        return [follow]
    if kind == "fork":
        return [(node[1], None), follow]
    if kind == "loop":
        if node[1] == 0:
            return [follow]
        return [(node[2], (("loop", node[1] - 1, node[2]), follow))]
    return [(part, follow if index == node[2] else None) for index, part in enumerate(node[1])]


class Tape:
    """All callbacks that came into a queue, the first ones of which have run, and what these did.

    A callback is a tuple of pairs (owner, chain), which it runs one after the other; the owner is
    the index of a program. The lists only grow, so their lengths tell how to go back.
    """

    def __init__(self):
        self.callbacks = []
        self.ran = 0
        self.words = []
        self.ended = []
        self.known = []
        self.added = []
        self.marks = []

    def begin(self, program):
        """Gives a program its index; returns what starts it."""
        self.known.append(program)
        return len(self.known) - 1, (prepared(program), (("end",), None))

    def begin_company(self, company):
        """Puts the callback that starts the programs of a company."""
        self.callbacks.append(tuple([self.begin(program) for program in company]))

    def begin_one(self, program):
        """Puts the callback that starts one more program, and notes how many callbacks have run by then."""
        self.callbacks.append((self.begin(program),))
        self.added.append(self.ran)

    def waiting(self):
        """How many callbacks have not run."""
        return len(self.callbacks) - self.ran

    def run_next(self):
        """Runs the first callback that has not run."""
        running = list(self.callbacks[self.ran][::-1])
        self.ran = self.ran + 1
        while running != []:
            owner, chain = running.pop()
            if chain is not None:
                following = self.run_node(owner, chain)
                running.extend([(owner, later) for later in following[::-1]])

    def run_node(self, owner, chain):
        """Runs the first node of a chain; returns the chains that come next within the same callback."""
        node, follow = chain
        kind = node[0]
        if kind == "log":
            self.words.append((owner, node[1]))
            return [follow]
        if kind == "await":
            rest = follow if node[1] == 1 else (("await", node[1] - 1), follow)
            self.callbacks.append(((owner, rest),))
            return []
        if kind == "end":
            self.ended.append(owner)
            return []
        return opened(node, follow)

    def mark(self):
        """Notes that an action begins."""
        lengths = (len(self.callbacks), len(self.words), len(self.ended), len(self.known), len(self.added))
        self.marks.append((self.ran, *lengths))

    def go_back(self):
        """Takes back the last action that was noted."""
        self.ran, callbacks, words, ended, known, added = self.marks.pop()
        del self.callbacks[callbacks:]
        del self.words[words:]
        del self.ended[ended:]
        del self.known[known:]
        del self.added[added:]

    def copied(self):
        """Another tape with all that this one has."""
        twin = Tape()
        twin.callbacks = list(self.callbacks)
        twin.ran = self.ran
        twin.words = list(self.words)
        twin.ended = list(self.ended)
        twin.known = list(self.known)
        twin.added = list(self.added)
        twin.marks = list(self.marks)
        return twin
