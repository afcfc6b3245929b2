"""How cuts stand to one another: greater and lesser ones, the least with an event, and all of them."""

from cutrestore.cuts import need_cut
from cutrestore.errors import TooMany
from cutrestore.hearsay import all_heard, heard_of

MOST_CUTS = 500


def greater_cut(run, one, other):
    """The greater count of each machine, or NoCount."""
    need_cut(run, one)
    need_cut(run, other)
    return tuple([max(c, other_c) for c, other_c in zip(one, other)])


def lesser_cut(run, one, other):
    """The lesser count of each machine, or NoCount."""
    need_cut(run, one)
    need_cut(run, other)
    return tuple([min(c, other_c) for c, other_c in zip(one, other)])


def least_cut_with(run, m, c):
    """The least cut with the event (m, c) that could have been, or NoEvent."""
    return heard_of(run, m, c)


def cut_with_next(heard, cut, m):
    """The cut with one more event of machine m, None where it could not have been."""
    counts = list(cut)
    counts[m] += 1
    needed = heard.get((m, counts[m]))
    if needed is None or any([c > most for c, most in zip(needed, counts)]):
        return None
    return tuple(counts)


def all_cuts(run):
    """All cuts that could have been, sorted, or TooMany."""
    heard = all_heard(run)
    cuts = [tuple([0 for machine in run.net().machines()])]
    seen = set()
    at = 0
    # A schedule leads to each of them, so each comes of another one by one event more.
    while at < len(cuts):
        for m in range(len(cuts[at])):
            cut = cut_with_next(heard, cuts[at], m)
            if cut is not None and cut not in seen:
                seen.add(cut)
                cuts.append(cut)
        if len(cuts) > MOST_CUTS:
            raise TooMany("more cuts than are told")
        at += 1
    return sorted(cuts)
