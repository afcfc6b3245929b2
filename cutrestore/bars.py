"""Choices of points, and what bars a line through one of them."""

from cutrestore.cuts import orphans_of
from cutrestore.errors import NoCount, NoLine
from cutrestore.figures import is_within
from cutrestore.lines import latest_line, need_points


def orphan_of(run, points, choice):
    """The least orphan of a choice, None where it is a line; or NoCount."""
    need_points(run, points)
    orphans = orphans_of(run, choice)
    if not all([c in counts for c, counts in zip(choice, points)]):
        raise NoCount("no such choice")
    return None if orphans == [] else orphans[0]


def line_through(run, points, m, c):
    """`("line", cut)` with the latest line through a point, or `("barred", falls, letter)`; or NoCount."""
    need_points(run, points)
    if not is_within(m, 0, len(points)) or c not in points[m]:
        raise NoCount("no such point")
    # With this point alone machine m has none ahead, so what would bring it below ends as where there is no line.
    narrowed = [[c] if machine == m else counts for machine, counts in enumerate(points)]
    try:
        return ("line", latest_line(run, narrowed)[0])
    except NoLine as bar:
        return ("barred", bar.falls, bar.letter)
