"""What the ways of keeping share whose points are counts that were kept, one by one."""

from cutrestore.live import Live


class Keeping(Live):
    """The points of a machine are 0, at first, and counts that were kept."""

    def __init__(self, net):
        Live.__init__(self, net)
        self.points_kept = [[0] for machine in net.machines()]

    def points(self, m):
        """The counts to which machine m can go back, rising, or NoMachine."""
        self.run_now.need_machine(m)
        return list(self.points_kept[m])

    def keep_point(self, m, c):
        """From now on c is a point of machine m; no point of it is greater."""
        if c not in self.points_kept[m]:
            self.points_kept[m].append(c)

    def forget_points(self, cut):
        """Forget the points behind a line."""
        self.points_kept = [[c for c in counts if c <= most] for counts, most in zip(self.points_kept, cut)]

    def let_points(self, cut):
        """Let go the points below a line: for each machine those that went."""
        went = [[c for c in counts if c < least] for counts, least in zip(self.points_kept, cut)]
        self.points_kept = [[c for c in counts if c >= least] for counts, least in zip(self.points_kept, cut)]
        return went

    def back_to(self, cut):
        """Asked when a stop has led to this line."""
        self.forget_points(cut)

    def let_below(self, cut):
        """Asked by letting go, with the sure line: for each machine the points that went."""
        return self.let_points(cut)
