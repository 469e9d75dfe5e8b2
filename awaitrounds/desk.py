"""A desk: named programs, and questions about them in lines of text."""

from awaitrounds.company import MOST_PROGRAMS, company_entries
from awaitrounds.counts import entry, total
from awaitrounds.equality import first_difference
from awaitrounds.errors import BadLine, NoName
from awaitrounds.rounds import finish, marked
from awaitrounds.texts import read_program, show_program
from awaitrounds.values import is_word

MOST_DIGITS = 40
# What follows the first word of a line; the lines that begin with let and company are looked at on their own.
FORMS = {
    "forget": ("name",), "names": (), "show": ("name",), "finish": ("name",), "total": ("name",),
    "round": ("name", "number"), "entry": ("name", "number"), "same": ("name", "name"),
}


def is_line(value):
    """Whether any value is a line of one of the forms."""
    if not isinstance(value, str):
        return False
    words = value.split(" ")
    if words[0] == "let":
        return len(words) > 2 and is_word(words[1])
    if words[0] == "company":
        return is_company_line(words)
    if words[0] not in FORMS:
        return False
    kinds = FORMS[words[0]]
    return len(words) == len(kinds) + 1 and all([is_kind(word, kind) for word, kind in zip(words[1:], kinds)])


def is_company_line(words):
    """Whether the words of a line that begins with company have its form."""
    if not 4 <= len(words) <= 3 + MOST_PROGRAMS or not is_numeral(words[1]) or not is_numeral(words[2]):
        return False
    return int(words[1]) <= int(words[2]) and all([is_word(word) for word in words[3:]])


def is_kind(word, kind):
    """Whether a word of a line is what stands there, a name or a number."""
    return is_word(word) if kind == "name" else is_numeral(word)


def is_numeral(word):
    """Whether a word of a line writes an integer from 0."""
    if not 1 <= len(word) <= MOST_DIGITS or not all(["0" <= sign <= "9" for sign in word]):
        return False
    return word == "0" or word[0] != "0"


def in_one_line(words):
    """The words with blanks between them, a stroke if there are none."""
    return " ".join(words) if len(words) > 0 else "-"


def program_text(program):
    """The answer to a question for the text of a program."""
    return show_program(program)


def finish_text(program):
    """The answer to a question for the finish of a program."""
    return str(finish(program))


def total_text(program):
    """The answer to a question for the number of its entries."""
    return str(total(program))


def round_text(program, at):
    """The answer to a question for the marked words of a round."""
    return in_one_line(["_" if word is None else word for word in marked(program, at)])


def entry_text(program, number):
    """The answer to a question for an entry."""
    at, word = entry(program, number)
    return str(at) + " " + word


def same_text(one, other):
    """The answer to the question whether two programs are the same."""
    difference = first_difference(one, other)
    if difference is None:
        return "yes"
    return "no " + str(difference[0]) + " " + str(difference[1])


def company_text(start, stop, *programs):
    """The answer to a question for entries of a company."""
    return in_one_line([str(index) + ":" + word for index, word in company_entries(programs, start, stop)])


ANSWERS = {
    "show": program_text, "finish": finish_text, "total": total_text, "round": round_text, "entry": entry_text,
    "same": same_text, "company": company_text,
}


class Desk:
    """Programs that are kept under names; lines keep and forget them, and ask about them."""

    def __init__(self):
        self.kept = {}

    def say(self, line):
        """The answer to a line, any value."""
        if not is_line(line):
            raise BadLine(line)
        words = line.split(" ")
        if words[0] == "let":
            # The text is all that follows the second blank, with its own blanks as they are.
            self.kept[words[1]] = read_program(line.split(" ", 2)[2])
            return "ok"
        self.check_names(words[1:])
        if words[0] == "forget":
            del self.kept[words[1]]
            return "ok"
        if words[0] == "names":
            return in_one_line(sorted(self.kept))
        answer = ANSWERS[words[0]]
        meanings = [self.meaning(word) for word in words[1:]]
        return answer(*meanings)

    def check_names(self, words):
        """Refuses the first name among the words under which no program is kept."""
        for word in words:
            if is_word(word) and word not in self.kept:
                raise NoName(word)

    def meaning(self, word):
        """The program that is kept under a name, or the number that a numeral writes."""
        return self.kept[word] if is_word(word) else int(word)
