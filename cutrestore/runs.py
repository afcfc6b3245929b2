"""Runs: what comes of a net by picks, one after another."""

from cutrestore.errors import NoCount, NoLetter, NoMachine, NotFirst
from cutrestore.figures import is_within


class Run:
    """A run of a net. A pick that is refused changes nothing of it."""

    def __init__(self, net):
        self.own_net = net
        self.picks_done = []
        # For each machine, by its counts of events from 0 on: the state, and how many words it had said.
        self.states_had = [[machine.first_state()] for machine in net.machines()]
        self.words_had = [[0] for machine in net.machines()]
        self.words_said = [[] for machine in net.machines()]
        # For each way, by the numbers of its letters: what it says, who sent it, who worked on it.
        self.letters_say = [[] for way in net.ways()]
        self.senders = [[] for way in net.ways()]
        self.workers = [[] for way in net.ways()]
        for way, said in net.letters():
            self.put_letter(way, said, None)

    def put_letter(self, way, said, sender):
        """Put a letter on a way, behind all that were put there."""
        self.letters_say[way].append(said)
        self.senders[way].append(sender)
        self.workers[way].append(None)

    def need_machine(self, m):
        """NoMachine where there is no such machine."""
        if not is_within(m, 0, len(self.states_had)):
            raise NoMachine("no such machine")

    def need_count(self, m, c):
        """NoMachine, then NoCount where the machine has not had so many events."""
        self.need_machine(m)
        if not is_within(c, 0, len(self.states_had[m])):
            raise NoCount("no such count")

    def need_way(self, way, at):
        """NoLetter where there is no such way."""
        if not is_within(way, 0, len(self.letters_say)):
            raise NoLetter(at)

    def need_letter(self, way, number, at):
        """NoLetter where no such letter was put."""
        self.need_way(way, at)
        if not is_within(number, 0, len(self.letters_say[way])):
            raise NoLetter(at)

    def need_pick(self, way, number, at):
        """NoLetter where it does not lie there, NotFirst where others come ahead."""
        self.need_letter(way, number, at)
        if self.workers[way][number] is not None:
            raise NoLetter(at)
        # A row is worked on in order: all ahead are done where the one just ahead is.
        sort = self.own_net.ways()[way][2]
        if sort == "row" and number > 0 and self.workers[way][number - 1] is None:
            raise NotFirst(at)

    def pick_at(self, way, number, at):
        """Do the pick that has the number at in its schedule."""
        self.need_pick(way, number, at)
        m = self.own_net.ways()[way][1]
        place = self.own_net.ways_in(m).index(way)
        machine = self.own_net.machines()[m]
        state, sent, words = machine.worked(self.state(m), place, self.letters_say[way][number])
        event = (m, len(self.states_had[m]))
        self.picks_done.append((way, number))
        self.workers[way][number] = event
        self.states_had[m].append(state)
        self.words_said[m].extend(words)
        self.words_had[m].append(len(self.words_said[m]))
        ways_out = self.own_net.ways_out(m)
        for j, said in sent:
            if j < len(ways_out):
                self.put_letter(ways_out[j], said, event)
        return event

    def net(self):
        """The net that it was made of, itself."""
        return self.own_net

    def pick(self, way, number):
        """Do a pick: the event (m, c), or NoLetter, or NotFirst."""
        return self.pick_at(way, number, 0)

    def count(self, m):
        """How many events a machine has."""
        self.need_machine(m)
        return len(self.states_had[m]) - 1

    def state(self, m):
        """The state of a machine."""
        self.need_machine(m)
        return self.states_had[m][-1]

    def words(self, m):
        """The words of a machine, in order."""
        self.need_machine(m)
        return list(self.words_said[m])

    def lying(self, way):
        """The letters (number, said) that lie on a way, rising."""
        self.need_way(way, 0)
        workers = self.workers[way]
        return [(number, said) for number, said in enumerate(self.letters_say[way]) if workers[number] is None]

    def put_many(self, way):
        """How many letters were put on a way."""
        self.need_way(way, 0)
        return len(self.letters_say[way])

    def schedule(self):
        """The picks that were done, in order."""
        return list(self.picks_done)

    def said(self, way, number):
        """What a letter that was put says."""
        self.need_letter(way, number, 0)
        return self.letters_say[way][number]

    def sent_by(self, way, number):
        """The event that sent a letter; None of a first letter."""
        self.need_letter(way, number, 0)
        return self.senders[way][number]

    def worked_by(self, way, number):
        """The event that worked on a letter; None where none did."""
        self.need_letter(way, number, 0)
        return self.workers[way][number]

    def state_behind(self, m, c):
        """The state that a machine had behind c events."""
        self.need_count(m, c)
        return self.states_had[m][c]

    def words_behind(self, m, c):
        """The words that a machine had behind c events."""
        self.need_count(m, c)
        return self.words_said[m][:self.words_had[m][c]]


def played_run(net, schedule):
    """The run that a schedule leads to; a refusal has the number of its pick."""
    run = Run(net)
    for at, (way, number) in enumerate(schedule):
        run.pick_at(way, number, at)
    return run
