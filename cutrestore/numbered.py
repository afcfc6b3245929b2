"""Keeps with numbers: letters bear the numbers of keeps, so that keeps of one number fit one another."""

from cutrestore.keeping import Keeping


class Numbered(Keeping):
    """A live net with keeps with numbers."""

    def __init__(self, net):
        Keeping.__init__(self, net)
        self.keeps_made = [[] for machine in net.machines()]
        # By events: the number that the machine had then. What is left of one that never was is put anew with the
        # event of its name that comes, ahead of its letters.
        self.numbers_had = {}

    def keep_as(self, m, number):
        """Machine m keeps where it stands, and takes a number."""
        c = self.run_now.count(m)
        self.keep_point(m, c)
        self.keeps_made[m].append((c, number))

    def keep(self, m):
        """Machine m keeps: its new number, or NoMachine."""
        number = self.number_of(m) + 1
        self.keep_as(m, number)
        return number

    def number_of(self, m):
        """The number of a machine, or NoMachine."""
        keeps = self.keeps(m)
        return 0 if keeps == [] else keeps[-1][1]

    def keeps(self, m):
        """The keeps (count, number) of a machine, in the order in which they were made, or NoMachine."""
        self.run_now.need_machine(m)
        return list(self.keeps_made[m])

    def borne(self, way, number):
        """The number that a letter bears, or NoLetter."""
        sender = self.run_now.sent_by(way, number)
        return 0 if sender is None else self.numbers_had[sender]

    def first_cut(self, n):
        """Of each machine the count of its first keep with n or more, where it stands if it has none."""
        cut = []
        for m, keeps in enumerate(self.keeps_made):
            counts = [c for c, number in keeps if number >= n]
            cut.append(self.run_now.count(m) if counts == [] else counts[0])
        return tuple(cut)

    def ahead_of(self, way, number):
        """Ahead of a letter with a greater number than its own a machine keeps, and takes that number."""
        m = self.net().ways()[way][1]
        if self.borne(way, number) > self.number_of(m):
            self.keep_as(m, self.borne(way, number))
        self.numbers_had[(m, self.run_now.count(m) + 1)] = self.number_of(m)

    def back_to(self, cut):
        """Forget the points and the keeps behind a line."""
        self.forget_points(cut)
        self.keeps_made = [[keep for keep in keeps if keep[0] <= most] for keeps, most in zip(self.keeps_made, cut)]

    def let_below(self, cut):
        """Let go the points below the sure line, with their keeps: for each machine the points that went."""
        self.keeps_made = [[keep for keep in keeps if keep[0] >= least] for keeps, least in zip(self.keeps_made, cut)]
        return self.let_points(cut)

    def keep_all(self):
        """Each machine keeps, as when it is told to."""
        for m in range(len(self.points_kept)):
            self.keep(m)
