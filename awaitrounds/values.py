"""What single values are: integers and words."""

MOST_LETTERS = 8


def is_integer(value):
    """Whether any value is an integer, which a boolean is not."""
    return isinstance(value, int) and not isinstance(value, bool)


def is_word(value):
    """Whether any value is a word."""
    if not isinstance(value, str) or not 1 <= len(value) <= MOST_LETTERS:
        return False
    return all(["a" <= letter <= "z" for letter in value])
