"""Live nets: they work as a run does, and some of their machines may stop at any moment."""

from cutrestore.cuts import parts_of_cut
from cutrestore.errors import NoMachine
from cutrestore.figures import is_list, is_within
from cutrestore.lines import latest_line
from cutrestore.runs import Run, played_run


def need_unlike_machines(things, many):
    """NoMachine where things are no numbers, each once, of so many machines."""
    if not is_list(things, 0, many) or not all([is_within(m, 0, many) for m in things]):
        raise NoMachine("no such machines")
    if len(set(things)) < len(things):
        raise NoMachine("one machine twice")


def counts_of(run):
    """The cut at which a run stands."""
    return tuple([run.count(m) for m in range(len(run.net().machines()))])


class Live:
    """What all ways of keeping have; those under it put points, reach and what is asked by the others otherwise."""

    def __init__(self, net):
        self.run_now = Run(net)

    def net(self):
        """The net that it was made of, itself."""
        return self.run_now.net()

    def pick(self, way, number):
        """Do a pick: the event (m, c), or NoLetter, or NotFirst."""
        self.run_now.need_pick(way, number, 0)
        self.ahead_of(way, number)
        return self.run_now.pick(way, number)

    def run(self):
        """A new Run that stands as the net does."""
        return played_run(self.net(), self.history())

    def history(self):
        """The schedule without stops that leads to where the net stands."""
        return self.run_now.schedule()

    def points(self, m):
        """The counts to which machine m can go back, rising, or NoMachine."""
        self.run_now.need_machine(m)
        return [0]

    def reach(self, m):
        """The counts at which machine m may go on where it is not stopped, rising, or NoMachine."""
        return sorted(set(self.points(m) + [self.run_now.count(m)]))

    def stop(self, stopped):
        """Stop some machines: the line to which all go back, and its falls; or NoMachine."""
        counts = counts_of(self.run_now)
        need_unlike_machines(stopped, len(counts))
        if len(stopped) == 0:
            return (counts, [])
        points = [self.points(m) if m in stopped else self.reach(m) for m in range(len(counts))]
        cut, falls = latest_line(self.run_now, points)
        self.run_now = played_run(self.net(), parts_of_cut(self.run_now, cut)[0])
        self.back_to(cut)
        return (cut, falls)

    def sure(self):
        """The latest line of the points alone."""
        return latest_line(self.run_now, [self.points(m) for m in range(len(self.net().machines()))])[0]

    def let_go(self):
        """Let go what no stop to come leads back to: for each machine the points that went."""
        return self.let_below(self.sure())

    def settle(self):
        """Keep all where it stands: the sure line then."""
        self.keep_all()
        return self.sure()

    def ahead_of(self, way, number):
        """Asked ahead of each pick that is not refused; what this refuses is refused."""
        pass

    def back_to(self, cut):
        """Asked when a stop has led to this line."""
        pass

    def let_below(self, cut):
        """Asked by letting go, with the sure line: for each machine the points that went."""
        return [[] for machine in self.net().machines()]

    def keep_all(self):
        """Asked by settling."""
        pass
