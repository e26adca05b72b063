"""Integers, names and free names, as all parts of the package tell them."""

MOST_LETTERS = 8

# The words of the language of terms: they are no names of calls, definitions, parameters and bound names.
WORDS = (
    "null", "yes", "no", "each", "none", "fail", "try", "other", "if", "then", "else", "end", "when", "as", "catch",
    "reduce", "first", "take", "fails", "def", "in", "change", "drop", "places", "add", "append", "is", "equal", "at",
    "and", "or", "not",
)


def is_integer(value):
    """Whether any value is an integer; True and False are none."""
    return isinstance(value, int) and not isinstance(value, bool)


def is_name(value):
    """Whether any value is a name: 1 to 8 letters from a to z."""
    if not isinstance(value, str) or not 1 <= len(value) <= MOST_LETTERS:
        return False
    return all(["a" <= letter <= "z" for letter in value])


def is_free_name(value):
    """Whether any value is a name that is no word of the language."""
    return is_name(value) and value not in WORDS
