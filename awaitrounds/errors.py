"""The errors of the package."""


class RoundError(ValueError):
    """What all errors of the package have in common."""


class NoPlace(RoundError):
    """A value that is no place of a program."""

    def __init__(self, place):
        super().__init__("the program has no such place")
        self.place = place


class BadProgram(RoundError):
    """A value that is not a program."""

    def __init__(self, value):
        super().__init__("this is not a program")
        self.value = value


class TooLong(RoundError):
    """A form with more rows than the limit."""

    def __init__(self, limit):
        super().__init__("there are more rows than the limit")
        self.limit = limit


class TooMany(RoundError):
    """More of something than the limit."""

    def __init__(self, limit):
        super().__init__("there are more than the limit")
        self.limit = limit


class NoEntry(RoundError):
    """A value that is the number of no entry of a log."""

    def __init__(self, number):
        super().__init__("the log has no such entry")
        self.number = number


class NoProgram(RoundError):
    """A value that is the index of no program of a company."""

    def __init__(self, program):
        super().__init__("the company has no such program")
        self.program = program


class BadPlan(RoundError):
    """A value that is not a plan of a company."""

    def __init__(self, plan):
        super().__init__("this is not a plan of the company")
        self.plan = plan


class BadEvent(RoundError):
    """A value that is not an event of a company."""

    def __init__(self, event):
        super().__init__("this is not an event of the company")
        self.event = event


class BadWish(RoundError):
    """A value that is not a wish about a company."""

    def __init__(self, wish):
        super().__init__("this is not a wish about the company")
        self.wish = wish


class BadObservation(RoundError):
    """A value that does not have each event of a company once."""

    def __init__(self, value):
        super().__init__("this is not an observation of the company")
        self.value = value


class BadCompany(RoundError):
    """A value that is not a company."""

    def __init__(self, value):
        super().__init__("this is not a company")
        self.value = value


class EmptyQueue(RoundError):
    """A queue has no callback that could run."""

    def __init__(self):
        super().__init__("the queue has no callback")


class NothingToUndo(RoundError):
    """No action is left that could be taken back."""

    def __init__(self):
        super().__init__("there is no action to take back")


class BadText(RoundError):
    """A text in which the position does not fit the form."""

    def __init__(self, position):
        super().__init__("the text does not have the form")
        self.position = position


class BadLine(RoundError):
    """A value that is no line for a desk."""

    def __init__(self, line):
        super().__init__("this is not a line for a desk")
        self.line = line


class NoName(RoundError):
    """A name under which no program is kept."""

    def __init__(self, name):
        super().__init__("no program is kept under this name")
        self.name = name
