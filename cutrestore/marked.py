"""Cuts by marks: marks go along the ways behind the letters, and part what was sent ahead of a cut from the rest."""

from cutrestore.cuts import lying_at
from cutrestore.errors import Busy, NoMark, NotFirst, NotReached, NotRow
from cutrestore.keeping import Keeping
from cutrestore.live import counts_of


def need_rows(net):
    """NotRow with the first heap of a net."""
    for way, (source, goal, sort) in enumerate(net.ways()):
        if sort == "heap":
            raise NotRow(way)


def machines_reached(net, m):
    """The machines to which ways, one behind another, lead from machine m, and itself."""
    reached = [m]
    place = 0
    while place < len(reached):
        for way in net.ways_out(reached[place]):
            goal = net.ways()[way][1]
            if goal not in reached:
                reached.append(goal)
        place += 1
    return reached


def need_all_reached(net, m):
    """NotReached with the least machine to which no ways lead from machine m."""
    reached = machines_reached(net, m)
    for machine in range(len(net.machines())):
        if machine not in reached:
            raise NotReached(machine)


class Marked(Keeping):
    """A live net with cuts by marks."""

    def __init__(self, net):
        need_rows(net)
        Keeping.__init__(self, net)
        # Of the cut in hand: the count at which each machine kept, None where it has not; no list without a cut.
        self.cut_begun = None
        # By the ways on which a mark lies: how many letters had been put ahead of it.
        self.marks_put = {}
        self.cuts_done = []

    def mark(self, m):
        """Begin a cut at machine m: the count at which it kept; or NoMachine, Busy, NotReached."""
        self.run_now.need_machine(m)
        if self.cut_begun is not None:
            raise Busy("a cut is in hand")
        need_all_reached(self.net(), m)
        self.cut_begun = [None for machine in self.net().machines()]
        c = self.keep_for_cut(m)
        self.end_cut()
        return c

    def take(self, way):
        """Take the mark that lies on a way: the count at which its goal kept for this cut; or NoMark, NotFirst."""
        if way not in self.marks_put:
            raise NoMark("no mark lies there")
        if self.lies_ahead_of_mark(way):
            raise NotFirst(0)
        self.marks_put.pop(way)
        m = self.net().ways()[way][1]
        c = self.cut_begun[m]
        if c is None:
            c = self.keep_for_cut(m)
        self.end_cut()
        return c

    def marks(self):
        """The marks that lie on ways: tuples (way, how many letters had been put ahead of it), sorted."""
        return sorted(self.marks_put.items())

    def in_hand(self):
        """The counts at which the machines kept for the cut in hand, None for each that has not; or None."""
        return None if self.cut_begun is None else list(self.cut_begun)

    def done_cuts(self):
        """All cuts that were done, in order: tuples (counts, for each way the letters that lie there)."""
        return [(counts, [list(letters) for letters in lists]) for counts, lists in self.cuts_done]

    def lies_ahead_of_mark(self, way):
        """Whether letters that were put ahead of the mark on a way lie there still."""
        return any([number < self.marks_put[way] for number, said in self.run_now.lying(way)])

    def keep_for_cut(self, m):
        """Machine m keeps for the cut in hand, and puts marks on its ways out: the count."""
        self.cut_begun[m] = self.run_now.count(m)
        for way in self.net().ways_out(m):
            self.marks_put[way] = self.run_now.put_many(way)
        return self.cut_begun[m]

    def end_cut(self):
        """Do the cut in hand, when all machines have kept and all marks have come."""
        # Ways lead to each machine from the beginner, so one that has not kept has a mark on its way there still.
        if self.marks_put == {}:
            self.do_cut(tuple(self.cut_begun))

    def do_cut(self, counts):
        """A cut is done, and none is in hand any more."""
        self.drop_cut()
        self.cuts_done.append((counts, lying_at(self.run_now, counts)))
        for m, c in enumerate(counts):
            self.keep_point(m, c)

    def drop_cut(self):
        """Take the cut in hand away, with its marks."""
        self.cut_begun = None
        self.marks_put = {}

    def ahead_of(self, way, number):
        """A letter that was put behind a mark that lies there waits for it: NotFirst."""
        if way in self.marks_put and number >= self.marks_put[way]:
            raise NotFirst(0)

    def back_to(self, cut):
        """A stop takes the cut in hand away."""
        # Each done cut is a line, so no stop leads behind one, and no point is forgotten.
        self.drop_cut()

    def keep_all(self):
        """Take the cut in hand away, and do a cut of all counts as they are."""
        self.do_cut(counts_of(self.run_now))
