"""Resting: letters are worked on, the least first, till none may be picked."""

from cutrestore.errors import NetError, NoCount
from cutrestore.figures import is_within

MOST_PICKS = 120


def letters_in_front(run):
    """The letters that no other one on their way is ahead of, sorted."""
    letters = []
    for way, (source, goal, sort) in enumerate(run.net().ways()):
        lying = [(way, number) for number, said in run.lying(way)]
        letters.extend(lying if sort == "heap" else lying[:1])
    return letters


def pick_least(live, run):
    """Do the least pick that is not refused, of a live net and of its run: whether there was one."""
    for way, number in letters_in_front(run):
        # A way of keeping may refuse more than a run does; what is refused changes nothing, so it may be tried.
        try:
            live.pick(way, number)
        except NetError:
            continue
        run.pick(way, number)
        return True
    return False


def rest_live(live, most):
    """Do at most so many picks, each the least that may be done: how many were done; or NoCount."""
    if not is_within(most, 0, MOST_PICKS + 1):
        raise NoCount("not from 0 to 120")
    run = live.run()
    many = 0
    while many < most and pick_least(live, run):
        many += 1
    return many
