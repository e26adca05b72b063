"""The forms of filters and tests: the words that begin them, and what stands behind each word."""

# What stands behind a word, in turn. Parts of a term are "filter", "test", "walk", "chooser", all filters of
# "filters" and those in the pairs of "entries"; the other words tell names, numbers and leaves.
FORMS = {
    "same": (),
    "field": ("key",),
    "item": ("index",),
    "every": (),
    "none": (),
    "fail": (),
    "pipe": ("filter", "filter"),
    "both": ("filter", "filter"),
    "if": ("test", "filter", "filter"),
    "try": ("walk",),
    "other": ("walk", "filter"),
    "leaf": ("leaf",),
    "list": ("filter",),
    "dict": ("entries",),
    "sum": ("filter", "filter"),
    "less": ("filter", "filter"),
    "product": ("filter", "filter"),
    "alike": ("filter", "filter"),
    "before": ("filter", "filter"),
    "as": ("filter", "free", "filter"),
    "name": ("free",),
    "when": ("filter", "filter", "filter"),
    "catch": ("filter", "filter"),
    "reduce": ("filter", "free", "filter", "filter"),
    "first": ("filter",),
    "take": ("index", "filter"),
    "fails": ("filter",),
    "def": ("free", "parameters", "filter", "filter"),
    "call": ("free", "filters"),
    "places": ("chooser",),
    "change": ("chooser", "filter"),
    "drop": ("chooser",),
    "add": ("chooser", "key", "filter"),
    "append": ("chooser", "filter"),
    "is": ("sort",),
    "equal": ("leaf",),
    "at": ("walk", "test"),
    "and": ("test", "test"),
    "or": ("test", "test"),
    "not": ("test",),
}
TESTS = ("is", "equal", "at", "and", "or", "not")
WALKS = ("same", "field", "item", "none", "fail", "pipe", "if")
CHOOSERS = ("same", "field", "item", "every", "none", "fail", "pipe", "both", "if", "try", "other")
PART_KINDS = ("filter", "test", "walk", "chooser")


def begins_kind(word, kind):
    """Whether a word begins a form of this kind: "filter", "test", "walk" or "chooser"."""
    if kind == "walk":
        return word in WALKS
    if kind == "chooser":
        return word in CHOOSERS
    return word in FORMS and (word in TESTS) == (kind == "test")


def narrowed(outer, kind):
    """What a part must be: the filters in a walk are walks, those in a chooser choosers."""
    return outer if kind == "filter" else kind


def kinds_and_parts(term):
    """The parts of a filter or test, in order, as pairs of what must stand there and the part."""
    found = []
    for kind, field in zip(FORMS[term[0]], term[1:]):
        if kind in PART_KINDS:
            found.append((kind, field))
        elif kind == "filters":
            found.extend([("filter", part) for part in field])
        elif kind == "entries":
            found.extend([("filter", part) for _, part in field])
    return found


def with_parts(term, parts):
    """The filter or test with other parts in the place of its own, as many and in their order."""
    fields = []
    begin = 0
    for kind, field in zip(FORMS[term[0]], term[1:]):
        if kind in PART_KINDS:
            fields.append(parts[begin])
            begin += 1
        elif kind == "filters":
            fields.append(tuple(parts[begin:begin + len(field)]))
            begin += len(field)
        elif kind == "entries":
            further = parts[begin:begin + len(field)]
            fields.append(tuple([(entry[0], part) for entry, part in zip(field, further)]))
            begin += len(field)
        else:
            fields.append(field)
    return (term[0], *fields)
