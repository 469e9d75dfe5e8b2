"""What single values are: integers, numbers and words."""

MOST_LETTERS = 8


def is_integer(value):
    """Whether any value is an integer, which a boolean is not."""
    return isinstance(value, int) and not isinstance(value, bool)


def is_number(value):
    """Whether any value is an integer from 0."""
    return is_integer(value) and value >= 0


def is_index(value, many):
    """Whether any value is the index of one of so many things."""
    return is_number(value) and value < many


def is_word(value):
    """Whether any value is a word."""
    if not isinstance(value, str) or not 1 <= len(value) <= MOST_LETTERS:
        return False
    return all(["a" <= letter <= "z" for letter in value])
