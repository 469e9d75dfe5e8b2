"""Which texts have the form of a program, found sign by sign and in all ways at once, for the tests alone.

The form is written as rules. A way to go on is a chain of what is still to come: None, or (item,
chain). An item that is a key of RULES stands for each of its rules, another one for one sign.
"""

import re

LETTERS = "abcdefghijklmnopqrstuvwxyz"
DIGITS = "0123456789"
RULES = {
    "PROGRAM": (
        (*"log ", "WORD"), (*"await ", "NUMBER"), (*"seq(", "PARTS", ")"), (*"fork(", "PROGRAM", ")"),
        (*"join(", "PARTS", ")"), (*"race(", "PARTS", ")"), (*"loop ", "NUMBER", " ", "PROGRAM"),
    ),
    "PARTS": ((), ("PROGRAM", "MORE PARTS")),
    "MORE PARTS": ((), (*"; ", "PROGRAM", "MORE PARTS")),
    "WORD": (("LETTER", "MORE LETTERS"),),
    "MORE LETTERS": ((), ("LETTER", "MORE LETTERS")),
    "LETTER": tuple((sign,) for sign in LETTERS),
    "NUMBER": (("0",), *[(sign, "MORE DIGITS") for sign in DIGITS[1:]]),
    "MORE DIGITS": ((), *[(sign, "MORE DIGITS") for sign in DIGITS]),
}


def opened(ways):
    """The ways with a sign, or nothing at all, as what comes first."""
    found = []
    waiting = list(ways)
    while waiting:
        way = waiting.pop()
        if way is None or way[0] not in RULES:
            found.append(way)
            continue
        for rule in RULES[way[0]]:
            longer = way[1]
            for item in reversed(rule):
                longer = (item, longer)
            waiting.append(longer)
    return found


def first_wrong(text):
    """The index of the first sign with which no text of the form goes on; None if the text has the form."""
    ways = opened([("PROGRAM", None)])
    for at, sign in enumerate(text):
        ways = opened([way[1] for way in ways if way is not None and way[0] == sign])
        if not ways:
            return at
    return None if None in ways else len(text)


def meant(text):
    """What a text that has the form writes; for short texts only."""
    parts, rest = meant_program(text)
    assert rest == "", rest
    return parts


def meant_program(text):
    """The program at the beginning of a text, and what follows it."""
    leaf = re.match("log ([a-z]+)", text)
    if leaf:
        return ("log", leaf[1]), text[leaf.end():]
    leaf = re.match("await ([0-9]+)", text)
    if leaf:
        return ("await", int(leaf[1])), text[leaf.end():]
    head = re.match("loop ([0-9]+) ", text)
    if head:
        body, rest = meant_program(text[head.end():])
        return ("loop", int(head[1]), body), rest
    kind, rest = text.split("(", 1)
    parts = []
    while not rest.startswith(")"):
        part, rest = meant_program(rest.removeprefix("; "))
        parts.append(part)
    return (kind, parts[0] if kind == "fork" else tuple(parts)), rest[1:]
