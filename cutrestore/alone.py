"""Keeps alone: a machine keeps when it is told to, and hears of no other's keeps."""

from cutrestore.keeping import Keeping


class Alone(Keeping):
    """A live net with keeps alone."""

    def __init__(self, net):
        Keeping.__init__(self, net)

    def keep(self, m):
        """Machine m keeps: the count that is a point from now on, or NoMachine."""
        c = self.run_now.count(m)
        self.keep_point(m, c)
        return c

    def keep_all(self):
        """Each machine keeps, as when it is told to."""
        for m in range(len(self.points_kept)):
            self.keep(m)
