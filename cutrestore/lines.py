"""Lines: the latest cut that could have been, of points to which machines can go back."""

from cutrestore.cuts import letters_passed, orphans_among
from cutrestore.errors import NoCount, NoLine
from cutrestore.figures import is_list, is_within


def is_rising(counts):
    """Whether each count is above the one ahead of it."""
    return all([low < high for low, high in zip(counts, counts[1:])])


def are_counts(things, most):
    """Whether things are at least one count up to so many events, rising, each once."""
    if not is_list(things, 1, most + 1):
        return False
    return all([is_within(c, 0, most + 1) for c in things]) and is_rising(things)


def need_points(run, points):
    """NoCount where they are no points of the run."""
    many = len(run.net().machines())
    if not is_list(points, many, many):
        raise NoCount("not a list for each machine")
    if not all([are_counts(counts, run.count(m)) for m, counts in enumerate(points)]):
        raise NoCount("no such points")


def point_ahead(counts, c):
    """The greatest point ahead of the event with the number c, None where there is none."""
    return max([point for point in counts if point < c], default=None)


def latest_line(run, points):
    """The latest line of points, and its falls; NoCount, or NoLine."""
    need_points(run, points)
    passed = letters_passed(run)
    cut = [counts[-1] for counts in points]
    falls = []
    orphans = orphans_among(passed, cut)
    # No line is greater anywhere: so none has the event that sent an orphan, nor the one that worked on it.
    while orphans != []:
        way, number = orphans[0]
        m, c = run.worked_by(way, number)
        low = point_ahead(points[m], c)
        if low is None:
            raise NoLine(falls, orphans[0])
        falls.append((m, cut[m], low, orphans[0]))
        cut[m] = low
        orphans = orphans_among(passed, cut)
    return (tuple(cut), falls)
