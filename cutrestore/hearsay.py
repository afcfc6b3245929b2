"""Who heard what: which events of a run are ahead of which."""

from cutrestore.errors import NoEvent
from cutrestore.figures import is_within


def need_event(run, m, c):
    """NoEvent where the run has no event (m, c)."""
    if not is_within(m, 0, len(run.net().machines())) or not is_within(c, 1, run.count(m) + 1):
        raise NoEvent("no such event")


def all_heard(run):
    """What each event of a run heard, by events."""
    noughts = tuple([0 for machine in run.net().machines()])
    heard = {}
    # In the order of the schedule both that an event hangs on are reckoned ahead of it, so each is reckoned once.
    for way, number in run.schedule():
        m, c = run.worked_by(way, number)
        before = heard.get((m, c - 1), noughts)
        sender = heard.get(run.sent_by(way, number), noughts)
        counts = [max(one, other) for one, other in zip(before, sender)]
        counts[m] = c
        heard[(m, c)] = tuple(counts)
    return heard


def heard_of(run, m, c):
    """How many events of each machine are the event (m, c) or ahead of it, or NoEvent."""
    need_event(run, m, c)
    return all_heard(run)[(m, c)]


def word_of(run, event, other):
    """How an event stands to another one: `same`, `ahead`, `behind` or `beside`; or NoEvent."""
    m, c = event
    other_m, other_c = other
    need_event(run, m, c)
    need_event(run, other_m, other_c)
    if event == other:
        return "same"
    heard = all_heard(run)
    if heard[other][m] >= c:
        return "ahead"
    if heard[event][other_m] >= other_c:
        return "behind"
    return "beside"
