"""Deeds: the steps that a machine takes on a letter."""

from cutrestore.figures import is_within, is_whole
from cutrestore.values import is_value

MOST_DEEDS = 24

# What follows each deed's word: checking and reading both go by it.
FORMS = {
    "set": ("number", "value"),
    "add": ("number", "value"),
    "times": ("number", "value"),
    "put": ("value",),
    "drop": (),
    "send": ("way", "value"),
    "say": ("value",),
    "skip": ("value", "value", "many"),
}


def form_of(word):
    """The sorts of what follows a deed's word; None where no deed has that word."""
    return FORMS.get(word)


def is_part(thing, sort, many):
    """Whether anything is of the sort that a deed wants in its place."""
    if sort == "value":
        return is_value(thing, many)
    if sort == "number":
        return is_within(thing, 0, many)
    if sort == "many":
        return is_within(thing, 1, MOST_DEEDS + 1)
    return is_whole(thing) and thing >= 0


def is_deed(thing, many):
    """Whether anything is a deed, where the state has so many numbers."""
    if not isinstance(thing, tuple) or len(thing) == 0 or not isinstance(thing[0], str):
        return False
    form = form_of(thing[0])
    if form is None or len(thing) != len(form) + 1:
        return False
    return all([is_part(part, sort, many) for part, sort in zip(thing[1:], form)])


def values_of(deed):
    """The values of a deed, in order."""
    return [part for part in deed if isinstance(part, tuple)]
