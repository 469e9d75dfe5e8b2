"""What the tests have in common."""

import unittest


class Case(unittest.TestCase):
    """Compares results exactly: True is not 1 here, and a list is not a tuple."""

    def exact(self, got, wanted):
        self.assertEqual(repr(got), repr(wanted))

    def raises(self, error, attributes, call, *args, **named):
        """A call raises exactly this error, with these attributes."""
        with self.assertRaises(ValueError) as caught:
            call(*args, **named)
        self.assertIs(caught.exception.__class__, error)
        self.assertEqual(repr(vars(caught.exception)), repr(attributes))


def nested(wrap, times, core):
    """A core that is wrapped so many times."""
    for _ in range(times):
        core = wrap(core)
    return core


# Values of every kind, none of which is a program, a form, a word, a number from 0 or a place.
ODD_VALUES = (
    None, True, False, -1, -10 ** 40, "", " ", "A", "a b", "abcdefghi", "log", "\u00e4", "a\n", (None,), (True,), (-1,),
    ("log",), (("log", "a"),), [], [0], ["log", "a"], ["seq", ()], {}, {"log": "a"}, {0: 0}, {"a": [1, (2,)]}, [[], ()],
    nested(lambda core: [core], 38, 0), nested(lambda core: {"k": core}, 38, None),
    nested(lambda core: ("seq", core), 39, 1),
)
