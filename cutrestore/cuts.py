"""Cuts of a run: whether they could have been, their two parts, and the letters that lie there."""

from cutrestore.errors import NoCount, Orphaned
from cutrestore.figures import is_within


def is_cut(run, thing):
    """Whether anything is a cut of a run."""
    if not isinstance(thing, tuple) or len(thing) != len(run.net().machines()):
        return False
    return all([is_within(c, 0, run.count(m) + 1) for m, c in enumerate(thing)])


def need_cut(run, cut):
    """NoCount where it is no cut of the run."""
    if not is_cut(run, cut):
        raise NoCount("no such cut")


def is_inside(event, cut):
    """Whether an event is within a cut; None, where there is no event, is not."""
    if event is None:
        return False
    m, c = event
    return c <= cut[m]


def letters_passed(run):
    """Tuples (letter, sender, worker) of all letters that one event sent and another one worked on, sorted."""
    passed = []
    for letter in sorted(run.schedule()):
        way, number = letter
        sender = run.sent_by(way, number)
        # Nobody sent a first letter, so it is no orphan of any cut.
        if sender is not None:
            passed.append((letter, sender, run.worked_by(way, number)))
    return passed


def orphans_among(passed, cut):
    """The orphans of a cut, of letters as letters_passed tells them."""
    return [letter for letter, sender, worker in passed if is_inside(worker, cut) and not is_inside(sender, cut)]


def orphans_of(run, cut):
    """The orphans of a cut, sorted, or NoCount."""
    need_cut(run, cut)
    return orphans_among(letters_passed(run), cut)


def parts_of_cut(run, cut):
    """The picks within a cut and those behind it, each in their order; NoCount, or Orphaned."""
    orphans = orphans_of(run, cut)
    if orphans != []:
        raise Orphaned(orphans[0])
    within = []
    behind = []
    for way, number in run.schedule():
        part = within if is_inside(run.worked_by(way, number), cut) else behind
        part.append((way, number))
    return (within, behind)


def lies_at(run, cut, way, number):
    """Whether a letter lies on its way at a cut."""
    sender = run.sent_by(way, number)
    if sender is not None and not is_inside(sender, cut):
        return False
    return not is_inside(run.worked_by(way, number), cut)


def lying_at(run, cut):
    """For each way the letters (number, said) that lie there at a cut, rising; or NoCount."""
    need_cut(run, cut)
    lying = []
    for way in range(len(run.net().ways())):
        numbers = [number for number in range(run.put_many(way)) if lies_at(run, cut, way, number)]
        lying.append([(number, run.said(way, number)) for number in numbers])
    return lying
