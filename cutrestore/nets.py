"""Nets: machines, the ways that join them, and their first letters."""

from cutrestore.errors import BadNet, NoMachine
from cutrestore.figures import is_list, is_within
from cutrestore.machines import Machine

MOST_MACHINES = 5
MOST_WAYS = 10
MOST_LETTERS = 20
# What a first letter says lies between this and its minus, neither of them with it.
SAID_BOUND = 10 ** 60


def is_way(thing, many):
    """Whether anything is a way between so many machines."""
    if not isinstance(thing, tuple) or len(thing) != 3 or not isinstance(thing[2], str):
        return False
    return is_within(thing[0], 0, many) and is_within(thing[1], 0, many) and thing[2] in ("row", "heap")


def is_letter(thing, many):
    """Whether anything is a first letter, where there are so many ways."""
    if not isinstance(thing, tuple) or len(thing) != 2:
        return False
    return is_within(thing[0], 0, many) and is_within(thing[1], 1 - SAID_BOUND, SAID_BOUND)


def refuse_net(machines, ways, letters):
    """BadNet where these make no net."""
    if not is_list(machines, 1, MOST_MACHINES) or not all([isinstance(one, Machine) for one in machines]):
        raise BadNet("no such machines")
    if not is_list(ways, 0, MOST_WAYS) or not all([is_way(way, len(machines)) for way in ways]):
        raise BadNet("no such ways")
    if not is_list(letters, 0, MOST_LETTERS) or not all([is_letter(letter, len(ways)) for letter in letters]):
        raise BadNet("no such first letters")


class Net:
    """A net; nothing in it ever changes, so many runs may share it."""

    def __init__(self, machines, ways, letters):
        refuse_net(machines, ways, letters)
        self.own_machines = tuple(machines)
        self.own_ways = tuple(ways)
        self.own_letters = tuple(letters)

    def machines(self):
        """The machines that it was made of, themselves."""
        return list(self.own_machines)

    def ways(self):
        """The ways (source, goal, sort)."""
        return list(self.own_ways)

    def letters(self):
        """The first letters (way, said)."""
        return list(self.own_letters)

    def ways_out(self, m):
        """The numbers of the ways with machine m as source, or NoMachine."""
        return self.ways_at(m, 0)

    def ways_in(self, m):
        """The numbers of the ways with machine m as goal, or NoMachine."""
        return self.ways_at(m, 1)

    def ways_at(self, m, end):
        """The numbers of the ways with machine m at one end: 0 the source, 1 the goal."""
        if not is_within(m, 0, len(self.own_machines)):
            raise NoMachine("no such machine")
        return [number for number, way in enumerate(self.own_ways) if way[end] == m]
