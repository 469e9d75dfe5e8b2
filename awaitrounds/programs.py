"""Programs: what they are, and their parts."""

from awaitrounds.courses import course_of
from awaitrounds.errors import BadProgram, NoPlace
from awaitrounds.values import is_integer, is_word

MOST_COUNT = 10 ** 18
MOST_NODES = 80
MOST_LOOPS = 8
MOST_DEPTH = 12
MOST_PARTS = 12
MOST_BESIDE = 6
MOST_BODY_FINISH = 6
MOST_BODY_WORDS = 12
MOST_BODY_ROUND = 30


def is_program(value):
    """Whether any value is a program."""
    waiting = [(value, 1, False)]
    bodies = []
    nodes = 0
    # The limits are looked at on the way: a value may share its parts and be far too large to walk through.
    while waiting:
        node, level, in_loop = waiting.pop()
        nodes = nodes + 1
        if nodes > MOST_NODES or level > MOST_DEPTH or not is_node(node):
            return False
        if node[0] == "loop":
            if in_loop or len(bodies) == MOST_LOOPS:
                return False
            bodies.append(node[2])
        below = in_loop or node[0] == "loop"
        waiting.extend([(child, level + 1, below) for child in children(node)])
    return all([is_body(body) for body in bodies])


def is_node(value):
    """Whether any value is a node of a program as far as one sees without looking at its children."""
    if not isinstance(value, tuple) or value == ():
        return False
    kind = value[0]
    if kind == "loop":
        return len(value) == 3 and is_count(value[1], 0)
    if len(value) != 2:
        return False
    if kind == "log":
        return is_word(value[1])
    if kind == "await":
        return is_count(value[1], 1)
    if kind == "seq":
        return are_parts(value[1], 0, MOST_PARTS)
    if kind == "join" or kind == "race":
        return are_parts(value[1], 1, MOST_BESIDE)
    return kind == "fork"


def is_count(value, least):
    """Whether any value is an integer from least up to the greatest count."""
    return is_integer(value) and least <= value <= MOST_COUNT


def are_parts(value, least, most):
    """Whether any value is a tuple of such a length."""
    return isinstance(value, tuple) and least <= len(value) <= most


def is_body(program):
    """Whether a program without loops may be the body of a loop."""
    course = course_of(program)
    if not 1 <= course.finish <= MOST_BODY_FINISH or course.total() > MOST_BODY_WORDS:
        return False
    return course.total() == 0 or course.last_round() <= MOST_BODY_ROUND


def children(program):
    """The tuple of the children of a program."""
    kind = program[0]
    if kind == "log" or kind == "await":
        return ()
    if kind == "fork":
        return (program[1],)
    if kind == "loop":
        return (program[2],)
    return program[1]


def with_children(program, parts):
    """A program with other children, as many as it has."""
    kind = program[0]
    if parts == ():
        return program
    if kind == "fork":
        return ("fork", parts[0])
    if kind == "loop":
        return ("loop", program[1], parts[0])
    return (kind, parts)


def node_count(program):
    """How many nodes a program has."""
    return 1 + sum([node_count(child) for child in children(program)])


def depth(program):
    """How deep the nodes of a program are nested."""
    return 1 + max([depth(child) for child in children(program)], default=0)


def words_of(program):
    """The ascending tuple of the words in the log nodes of a program."""
    return tuple(sorted(set(logged_words(program))))


def logged_words(program):
    """The words of all log nodes of a program, one for each node."""
    if program[0] == "log":
        return [program[1]]
    return [word for child in children(program) for word in logged_words(child)]


def renamed(program, names):
    """A program in which each word that is a key of names is replaced by its value."""
    if program[0] == "log":
        return ("log", names.get(program[1], program[1]))
    return with_children(program, tuple([renamed(child, names) for child in children(program)]))


def places(program):
    """The tuple of all places of a program, depth first."""
    found = [()]
    for index, child in enumerate(children(program)):
        found.extend([(index, *place) for place in places(child)])
    return tuple(found)


def part_at(program, place):
    """The program at a place."""
    if not isinstance(place, tuple):
        raise NoPlace(place)
    part = program
    for index in place:
        parts = children(part)
        if not is_integer(index) or not 0 <= index < len(parts):
            raise NoPlace(place)
        part = parts[index]
    return part


def replaced(program, place, other):
    """A program with the program other at a place."""
    # Looking the part up refuses a value that is no place.
    part_at(program, place)
    result = with_part(program, place, other)
    if not is_program(result):
        raise BadProgram(result)
    return result


def with_part(program, place, other):
    """A program with any value at a place."""
    if place == ():
        return other
    parts = list(children(program))
    parts[place[0]] = with_part(parts[place[0]], place[1:], other)
    return with_children(program, tuple(parts))
