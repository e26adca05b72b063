"""What texts of terms look like: the signs and words of their forms, and how tightly these bind."""

# Forms that are told by one word or mark.
ALONE = {"same": ".", "every": "each", "none": "none", "fail": "fail"}
# Forms of two parts with a sign or word between them.
SIGNS = {
    "pipe": "|", "both": ",", "alike": "=", "before": "<", "sum": "+", "less": "-", "product": "*", "or": "or",
    "and": "and",
}
# Forms that are told by their word, with their parts in parentheses behind it.
CALLED = (
    "try", "other", "catch", "reduce", "first", "take", "fails", "places", "change", "drop", "add", "append", "at",
)
LEAVES = {"null": None, "yes": True, "no": False}

# The looser a form, the lower its level; all others are tight. Tests have levels of their own.
LEVELS = {
    "as": 0, "def": 0, "pipe": 1, "both": 2, "alike": 3, "before": 3, "sum": 4, "less": 4, "product": 5,
    "or": 0, "and": 1,
}
TIGHT = 6
# The lowest levels of the parts of a form without parentheses; those of all others may be of any level.
ROOMS = {
    "as": (4, 0), "pipe": (2, 0), "both": (3, 2), "alike": (4, 4), "before": (4, 4), "sum": (4, 5), "less": (4, 5),
    "product": (5, 6), "or": (1, 0), "and": (2, 1), "not": (2,),
}


def level_of(term):
    """How tightly a filter or test binds."""
    return LEVELS.get(term[0], TIGHT)


def rooms_of(term, many):
    """The lowest levels of the parts of a term, of which there are so many."""
    return ROOMS.get(term[0], (0,) * many)
