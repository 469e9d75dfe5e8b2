"""Delays: the least ones that keep bounds, or a ring of bounds that no delays keep.

A bound is a tuple (source, target, least): the delay of the target is at least that of the source
plus least.
"""


def least_delays(many, bounds):
    """So many delays from 0, each the least that any delays have that keep the bounds, and None.

    If no delays keep the bounds: None, and the indexes of bounds in a ring whose leasts have a sum
    above 0.
    """
    delays = [0] * many
    causes = [None] * many
    # A delay that rests on other ones without a ring is reached in fewer passes than there are delays.
    for _ in range(many + 1):
        pushed = None
        for index, (source, target, least) in enumerate(bounds):
            if delays[source] + least > delays[target]:
                delays[target] = delays[source] + least
                causes[target] = index
                pushed = target
        if pushed is None:
            return delays, None
    return None, ring_behind(bounds, causes, pushed)


def ring_behind(bounds, causes, node):
    """The indexes of the bounds, one after the other, of the ring from which a delay is pushed on and on."""
    for _ in causes:
        node = bounds[causes[node]][0]
    ring = [causes[node]]
    while bounds[ring[-1]][0] != node:
        ring.append(causes[bounds[ring[-1]][0]])
    return ring[::-1]
