"""Programs and forms that are drawn with a seed, for the tests."""

import random

from awaitrounds.errors import BadProgram
from awaitrounds.programs import part_at, places, replaced
from tests.small_queue import run_rows

WORDS = ("a", "b", "c", "d", "ab", "xyz", "abcdefgh")


def drawn_word(source):
    return source.choice(WORDS)


def drawn_program(source, nodes, level=1, loops=True):
    """A program with about so many nodes or fewer, at most 12 levels deep."""
    if nodes <= 1 or level >= 11:
        return drawn_leaf(source)
    kind = source.choice(["seq", "seq", "seq", "fork", "join", "race", "join", "race", "loop"])
    if kind == "loop" and loops:
        body = drawn_body(source, nodes - 1, level + 1)
        return ("loop", source.choice([0, 1, 2, 3, 5, 9]), body)
    if kind == "fork" or kind == "loop":
        return ("fork", drawn_program(source, nodes - 1, level + 1, loops))
    many = min(source.choice([1, 2, 2, 3, 3, 4, 6]), nodes - 1)
    if kind == "seq":
        many = min(source.choice([0, 1, 2, 3, 3, 4, 4, 6, 12]), nodes - 1)
    parts = []
    for index in range(many):
        share = max(1, (nodes - 1) // many)
        parts.append(drawn_program(source, source.randint((share + 1) // 2, share), level + 1, loops))
    return (kind, tuple(parts))


def drawn_leaf(source):
    if source.random() < 0.5:
        return ("log", drawn_word(source))
    return ("await", source.choice([1, 1, 1, 2, 2, 3, 4, 7]))


def drawn_body(source, nodes, level):
    """A program without loops that may be the body of a loop, as its run shows."""
    for _ in range(50):
        body = drawn_program(source, min(nodes, source.randint(2, 16)), level, False)
        if is_drawn_body(body):
            return body
    return ("await", source.randint(1, 6))


def is_drawn_body(body):
    finish, rows = run_rows(body)
    many = sum(len(row) for row in rows.values())
    return 1 <= finish <= 6 and many <= 12 and max(rows, default=0) <= 30


def drawn_programs(seed, many, least, most):
    """So many drawn programs of about least to most nodes, always the same ones for a seed."""
    source = random.Random(seed)
    return [drawn_program(source, source.randint(least, most)) for _ in range(many)]


def drawn_form(source, most_rows=24, most_words=30):
    """A form with at most so many rows and words."""
    finish = source.randint(0, most_rows - 1)
    many_rows = source.choice([finish + 1, source.randint(finish + 1, most_rows)])
    rows = [[] for _ in range(many_rows)]
    spoken = source.choice([list(range(many_rows)), source.sample(range(many_rows), source.randint(1, many_rows))])
    for _ in range(source.randint(0, most_words)):
        rows[source.choice(spoken)].append(drawn_word(source))
    while len(rows) > finish + 1 and not rows[-1]:
        rows.pop()
    for row in rows[finish:]:
        row.insert(source.randint(0, len(row)), None)
    return (finish, tuple(tuple(row) for row in rows))


def drawn_forms(seed, many, most_rows=24, most_words=30):
    """So many drawn forms, always the same ones for a seed."""
    source = random.Random(seed)
    return [drawn_form(source, most_rows, most_words) for _ in range(many)]


def drawn_companies(seed, many, most_programs, nodes):
    """So many drawn companies of programs with up to so many nodes."""
    source = random.Random(seed)
    return [
        tuple(drawn_program(source, source.randint(1, nodes)) for _ in range(source.randint(1, most_programs)))
        for _ in range(many)
    ]


def near(source, program):
    """A program that is a little other than this one, or is written in another way."""
    for _ in range(50):
        place = source.choice(places(program))
        try:
            return replaced(program, place, rewritten(source, part_at(program, place)))
        except BadProgram:
            continue
    return program


def rewritten(source, part):
    """Another program in the place of a part; in half of the cases it does the same."""
    kind = part[0]
    if source.random() < 0.15:
        return source.choice([("seq", (part,)), ("seq", (("seq", ()), part)), ("join", (part,)), ("race", (part,))])
    if kind == "log":
        return source.choice([part, ("fork", part), ("log", drawn_word(source)), ("race", (part, ("await", 1)))])
    if kind == "await":
        return rewritten_await(source, part[1])
    if kind == "fork":
        return source.choice([("race", (("seq", ()), part[1])), ("seq", (part,)), ("fork", part), part[1]])
    if kind == "loop":
        return rewritten_loop(source, part)
    return rewritten_parts(source, part)


def rewritten_await(source, count):
    cut = source.randint(1, count)
    one, other = ("await", cut), ("await", max(1, count - cut))
    return source.choice([("seq", (one, other)), ("join", (one, ("await", count))), ("await", count + 1), one])


def rewritten_loop(source, part):
    kind, count, body = part
    cut = source.randint(0, count)
    return source.choice([
        ("seq", ((kind, cut, body), (kind, count - cut, body))), ("seq", (body, (kind, max(0, count - 1), body))),
        ("seq", ((kind, max(0, count - 1), body), body)), (kind, count // 2, ("seq", (body, body))),
        (kind, count, ("seq", (body, ("seq", ())))), (kind, count + 1, body), ("join", ((kind, cut, body), part)),
    ])


def rewritten_parts(source, part):
    kind, parts = part
    at = source.randint(0, len(parts))
    if source.random() < 0.4 and len(parts) > 1:
        if kind == "seq":
            return ("seq", (("seq", parts[:at]), ("seq", parts[at:])))
        at = source.randint(1, len(parts) - 1)
        return (kind, ((kind, parts[:at]), (kind, parts[at:])))
    left = max(0, at - 1)
    return source.choice([
        (kind, (*parts[:left], *reversed(parts[left:at + 1]), *parts[at + 1:])), (kind, parts[:left] + parts[at:]),
        (source.choice(["seq", "join", "race"]), parts), (kind, (*parts[:at], ("seq", ()), *parts[at:])),
    ])


def stretched(program, rounds):
    """A program whose loops go on for so many rounds more, a multiple of 60."""
    kind = program[0]
    if kind == "log" or kind == "await":
        return program
    if kind == "fork":
        return ("fork", stretched(program[1], rounds))
    if kind == "loop":
        return ("loop", program[1] + rounds // run_rows(program[2])[0], program[2])
    return (kind, tuple(stretched(part, rounds) for part in program[1]))


def drawn_stretch(source, rounds, loops):
    """A program of loops that begin within a few rounds, side by side, and go on for at least so many rounds."""
    parts = []
    for _ in range(loops):
        body = drawn_body(source, 8, 4)
        many = rounds // run_rows(body)[0] + source.randint(1, 9)
        ahead = ("await", source.randint(1, 9)) if source.random() < 0.7 else ("log", drawn_word(source))
        parts.append(("seq", (ahead, ("loop", many, body), drawn_leaf(source))))
    if len(parts) == 1:
        return parts[0]
    return source.choice([
        ("join", tuple(parts)), ("race", tuple(parts)), ("seq", (*[("fork", part) for part in parts[1:]], parts[0])),
        ("seq", (("fork", parts[0]), ("join", tuple(parts[1:])), ("log", "z"))),
    ])
