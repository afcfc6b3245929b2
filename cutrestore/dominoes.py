"""The domino: points of two machines, however many, of which none but the first fit one another."""

from cutrestore.machines import Machine
from cutrestore.nets import Net


def domino_of(k):
    """A net of two machines, a schedule, and points with k + 1 of each, the latest line of which is (0, 0)."""
    machine = Machine(1000, [0], [], [("add", 0, ("is", 1)), ("send", 0, ("number", 0))])
    net = Net([machine, machine], [(0, 1, "row"), (1, 0, "row")], [(1, 0)])
    # One letter goes to and fro, so machine 0 at i fits machine 1 at i - 1 and i alone: these are never both points.
    schedule = []
    for number in range(3 * k):
        schedule.append((1, number))
        schedule.append((0, number))
    points = [[0], [0]]
    for step in range(1, k + 1):
        points[0].append(3 * step - 1)
        points[1].append(3 * step)
    return (net, schedule, points)
