"""Programs and forms that are drawn with a seed, for the tests."""

import random

from tests.small_queue import run_rows

WORDS = ("a", "b", "c", "d", "ab", "xyz", "abcdefgh")


def drawn_word(source):
    return source.choice(WORDS)


def drawn_program(source, nodes, level=1, loops=True):
    """A program with about so many nodes or fewer, at most 12 levels deep."""
    if nodes <= 1 or level >= 11:
        return drawn_leaf(source)
    kind = source.choice(["seq", "seq", "seq", "fork", "join", "race", "join", "race", "loop"])
    if kind == "loop" and loops:
        body = drawn_body(source, nodes - 1, level + 1)
        return ("loop", source.choice([0, 1, 2, 3, 5, 9]), body)
    if kind == "fork" or kind == "loop":
        return ("fork", drawn_program(source, nodes - 1, level + 1, loops))
    many = min(source.choice([1, 2, 2, 3, 3, 4, 6]), nodes - 1)
    if kind == "seq":
        many = min(source.choice([0, 1, 2, 3, 3, 4, 4, 6, 12]), nodes - 1)
    parts = []
    for index in range(many):
        share = max(1, (nodes - 1) // many)
        parts.append(drawn_program(source, source.randint((share + 1) // 2, share), level + 1, loops))
    return (kind, tuple(parts))


def drawn_leaf(source):
    if source.random() < 0.5:
        return ("log", drawn_word(source))
    return ("await", source.choice([1, 1, 1, 2, 2, 3, 4, 7]))


def drawn_body(source, nodes, level):
    """A program without loops that may be the body of a loop, as its run shows."""
    for _ in range(50):
        body = drawn_program(source, min(nodes, source.randint(2, 16)), level, False)
        if is_drawn_body(body):
            return body
    return ("await", source.randint(1, 6))


def is_drawn_body(body):
    finish, rows = run_rows(body)
    many = sum(len(row) for row in rows.values())
    return 1 <= finish <= 6 and many <= 12 and max(rows, default=0) <= 30


def drawn_programs(seed, many, least, most):
    """So many drawn programs of about least to most nodes, always the same ones for a seed."""
    source = random.Random(seed)
    return [drawn_program(source, source.randint(least, most)) for _ in range(many)]


def drawn_form(source, most_rows=24, most_words=30):
    """A form with at most so many rows and words."""
    finish = source.randint(0, most_rows - 1)
    many_rows = source.choice([finish + 1, source.randint(finish + 1, most_rows)])
    rows = [[] for _ in range(many_rows)]
    spoken = source.choice([list(range(many_rows)), source.sample(range(many_rows), source.randint(1, many_rows))])
    for _ in range(source.randint(0, most_words)):
        rows[source.choice(spoken)].append(drawn_word(source))
    while len(rows) > finish + 1 and not rows[-1]:
        rows.pop()
    for row in rows[finish:]:
        row.insert(source.randint(0, len(row)), None)
    return (finish, tuple(tuple(row) for row in rows))


def drawn_forms(seed, many, most_rows=24, most_words=30):
    """So many drawn forms, always the same ones for a seed."""
    source = random.Random(seed)
    return [drawn_form(source, most_rows, most_words) for _ in range(many)]
