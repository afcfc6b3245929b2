"""Stores: what a machine has written down, and the states that can be made of it."""

from cutrestore.errors import NoCount
from cutrestore.figures import is_within


def counts_reached(store):
    """The counts that a store reaches, rising: from its first keep's to the last one written."""
    keeps, letters = store
    first = keeps[0][0]
    last = first if letters == [] else letters[-1][0]
    return list(range(first, last + 1))


def keep_below(keeps, c):
    """The keep (count, state) with the greatest count that is not above c."""
    return max([keep for keep in keeps if keep[0] <= c])


def restored_state(machine, store, c):
    """The state behind c events, made of the machine and its store alone, or NoCount."""
    reached = counts_reached(store)
    if not is_within(c, reached[0], reached[-1] + 1):
        raise NoCount("the store does not reach this count")
    keeps, letters = store
    kept, state = keep_below(keeps, c)
    for count, way, said in letters:
        if kept < count <= c:
            state = machine.worked(state, way, said)[0]
    return state
