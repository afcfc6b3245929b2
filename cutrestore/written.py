"""Letters written down, ahead of being worked on or in passing."""

from cutrestore.live import Live
from cutrestore.stores import counts_reached, keep_below


def letters_worked_on(run, m, c):
    """Tuples (count, w, said) of the letters that machine m worked on behind its first c events, in order."""
    ways_in = run.net().ways_in(m)
    letters = []
    for way, number in run.schedule():
        goal, count = run.worked_by(way, number)
        if goal == m and count > c:
            letters.append((count, ways_in.index(way), run.said(way, number)))
    return letters


class Written(Live):
    """What both ways of writing letters down share: the stores."""

    def __init__(self, net):
        Live.__init__(self, net)
        self.keeps_written = [[(0, machine.first_state())] for machine in net.machines()]
        self.letters_written = [[] for machine in net.machines()]

    def store(self, m):
        """What a machine has written, a tuple (keeps, letters), or NoMachine."""
        self.run_now.need_machine(m)
        return (list(self.keeps_written[m]), list(self.letters_written[m]))

    def points(self, m):
        """The counts that the store of machine m reaches, rising, or NoMachine."""
        return counts_reached(self.store(m))

    def reach(self, m):
        """All counts from the least point of machine m to where it stands, or NoMachine."""
        # A machine that is not stopped has its letters in hand, written or not.
        return list(range(self.points(m)[0], self.run_now.count(m) + 1))

    def write_left(self, m):
        """Write down all letters that machine m worked on and has not written yet: how many, or NoMachine."""
        letters = letters_worked_on(self.run_now, m, self.points(m)[-1])
        self.letters_written[m].extend(letters)
        return len(letters)

    def keep(self, m):
        """Machine m writes, and then its state: the count, or NoMachine."""
        self.write_left(m)
        c = self.run_now.count(m)
        if self.keeps_written[m][-1][0] < c:
            self.keeps_written[m].append((c, self.run_now.state(m)))
        return c

    def back_to(self, cut):
        """Forget what was written of events behind a line."""
        for m, c in enumerate(cut):
            keeps, letters = self.store(m)
            self.keeps_written[m] = [keep for keep in keeps if keep[0] <= c]
            self.letters_written[m] = [letter for letter in letters if letter[0] <= c]

    def let_below(self, cut):
        """Let go what no state from the sure line on is made of: for each machine the points that went."""
        went = []
        for m, c in enumerate(cut):
            keeps, letters = self.store(m)
            least = keep_below(keeps, c)[0]
            went.append([point for point in self.points(m) if point < least])
            self.keeps_written[m] = [keep for keep in keeps if keep[0] >= least]
            self.letters_written[m] = [letter for letter in letters if letter[0] > least]
        return went


class Ahead(Written):
    """A live net with letters written ahead of being worked on."""

    def __init__(self, net):
        Written.__init__(self, net)

    def ahead_of(self, way, number):
        """Write a letter down, ahead of being worked on."""
        m = self.net().ways()[way][1]
        place = self.net().ways_in(m).index(way)
        self.letters_written[m].append((self.run_now.count(m) + 1, place, self.run_now.said(way, number)))


class Passing(Written):
    """A live net with letters written in passing."""

    def __init__(self, net):
        Written.__init__(self, net)

    def write(self, m):
        """Machine m writes: how many letters were written, or NoMachine."""
        return self.write_left(m)

    def keep_all(self):
        """Each machine writes."""
        for m in range(len(self.keeps_written)):
            self.write(m)
