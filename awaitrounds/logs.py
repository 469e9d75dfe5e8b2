"""Logs: the entries of courses that start side by side, with their numbers."""

from heapq import heapify, heappop, heapreplace

from awaitrounds.errors import TooMany
from awaitrounds.values import is_index

MOST_ENTRIES = 2000


class Log:
    """The log of courses that start side by side: their strands, and the indexes of the courses that own these."""

    def __init__(self, courses):
        self.strands = []
        self.owners = []
        for owner, course in enumerate(courses):
            strands = course.all_strands()
            self.strands.extend(strands)
            self.owners.extend([owner] * len(strands))

    def total(self):
        """How many entries there are."""
        return sum([strand.many for strand in self.strands])

    def before(self, at):
        """How many entries are logged in the rounds below one."""
        return sum([strand.before(at) for strand in self.strands])

    def has(self, number):
        """Whether any value is the number of an entry."""
        return is_index(number, self.total())

    def round_of(self, number):
        """The round of an entry."""
        low, high = 0, max([strand.last for strand in self.strands])
        while low < high:
            middle = (low + high) // 2
            if self.before(middle + 1) > number:
                high = middle
            else:
                low = middle + 1
        return low

    def located(self, number):
        """The round of an entry and the index of its strand."""
        at = self.round_of(number)
        speaking = [index for index, strand in enumerate(self.strands) if strand.speaks(at)]
        return at, speaking[number - self.before(at)]

    def between(self, start, stop):
        """The round and the index of the strand of each entry from start to stop - 1, as far as there are some."""
        stop = min(stop, self.total())
        if start >= stop:
            return []
        at = self.round_of(start)
        skipped = start - self.before(at)
        return self.following(at, skipped + stop - start)[skipped:]

    def following(self, at, many):
        """The rounds and the indexes of the strands of so many entries, from the first one of a round on."""
        coming = [(strand.next_round(at), index) for index, strand in enumerate(self.strands)]
        coming = [item for item in coming if item[0] is not None]
        heapify(coming)
        found = []
        while len(found) < many:
            at, index = coming[0]
            found.append((at, index))
            later = self.strands[index].next_round(at + 1)
            if later is None:
                heappop(coming)
            else:
                heapreplace(coming, (later, index))
        return found


def check_range(start, stop):
    """Refuses a range of too many entries."""
    if stop - start > MOST_ENTRIES:
        raise TooMany(MOST_ENTRIES)
