"""Schedules that are alike: which come of one another by exchanges of neighbours."""

from cutrestore.runs import played_run


def picks_of_machines(run):
    """For each machine the picks on its ways in, in the order in which they were done."""
    ways = run.net().ways()
    picks = [[] for machine in run.net().machines()]
    for way, number in run.schedule():
        picks[ways[way][1]].append((way, number))
    return picks


def runs_are_alike(one, other):
    """Whether two runs of a net have alike schedules."""
    return picks_of_machines(one) == picks_of_machines(other)


def exchanges_to_order(places):
    """Exchanges of neighbours that bring unlike numbers into rising order, as few as any."""
    row = list(places)
    exchanges = []
    for many in range(len(row)):
        # All ahead of this one are in order; it goes down past those that are greater, and past no other one.
        at = many
        while at > 0 and row[at - 1] > row[at]:
            row[at - 1], row[at] = row[at], row[at - 1]
            at -= 1
            exchanges.append(at)
    return exchanges


def are_alike(net, schedule, other):
    """Whether two schedules of a net are alike; each is refused as it is played."""
    one_run = played_run(net, schedule)
    return runs_are_alike(one_run, played_run(net, other))


def swaps_to(net, schedule, other):
    """Exchanges of the picks at k and k + 1 that lead from the one to the other; None where they are not alike."""
    one_run = played_run(net, schedule)
    other_run = played_run(net, other)
    if not runs_are_alike(one_run, other_run):
        return None
    places = {pick: place for place, pick in enumerate(other_run.schedule())}
    return exchanges_to_order([places[pick] for pick in one_run.schedule()])
