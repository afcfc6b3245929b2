"""Machines: a first state, and the deeds that each letter sets off."""

from cutrestore.deeds import MOST_DEEDS, is_deed, values_of
from cutrestore.errors import BadDeed, BadMachine
from cutrestore.figures import is_list, is_within
from cutrestore.values import worth_of

MOST_MODULUS = 10 ** 12
MOST_NUMBERS = 4
MOST_ROW = 12


def are_counted(things, least, most, modulus):
    """Whether anything is a list or a tuple of so many numbers below the modulus."""
    return is_list(things, least, most) and all([is_within(thing, 0, modulus) for thing in things])


def refuse_machine(modulus, numbers, row, deeds):
    """BadMachine where these make no machine, whatever its deeds are."""
    if not is_within(modulus, 2, MOST_MODULUS + 1):
        raise BadMachine("no such modulus")
    if not are_counted(numbers, 1, MOST_NUMBERS, modulus):
        raise BadMachine("no such first numbers")
    if not are_counted(row, 0, MOST_ROW, modulus):
        raise BadMachine("no such first row")
    if not isinstance(deeds, (list, tuple)):
        raise BadMachine("no list of deeds")


def refuse_deeds(deeds, many):
    """BadDeed at the first deed that is none, or is one too many."""
    for at, deed in enumerate(deeds):
        if at == MOST_DEEDS or not is_deed(deed, many):
            raise BadDeed(at)


def change_numbers(numbers, deed, worths, modulus):
    """Do a deed that changes one of the numbers."""
    if deed[0] == "set":
        numbers[deed[1]] = worths[0]
    elif deed[0] == "add":
        numbers[deed[1]] = (numbers[deed[1]] + worths[0]) % modulus
    elif deed[0] == "times":
        numbers[deed[1]] = (numbers[deed[1]] * worths[0]) % modulus


def change_row(row, deed, worths):
    """Do a deed that changes the row."""
    if deed[0] == "put" and len(row) < MOST_ROW:
        row.append(worths[0])
    elif deed[0] == "drop" and len(row) > 0:
        del row[0]


def left_out(deed, worths):
    """How many of the next deeds a deed leaves out."""
    if deed[0] == "skip" and worths[0] < worths[1]:
        return deed[3]
    return 0


class Machine:
    """A machine; nothing in it ever changes, so many may share it."""

    def __init__(self, modulus, numbers, row, deeds):
        refuse_machine(modulus, numbers, row, deeds)
        refuse_deeds(deeds, len(numbers))
        self.own_modulus = modulus
        self.own_state = (tuple(numbers), tuple(row))
        self.own_deeds = tuple(deeds)

    def modulus(self):
        """The modulus."""
        return self.own_modulus

    def first_state(self):
        """The state (numbers, row) in which it begins."""
        return self.own_state

    def deeds(self):
        """The deeds, in order."""
        return list(self.own_deeds)

    def worked(self, state, way, said):
        """The new state, the letters sent and the words, of one letter."""
        numbers = list(state[0])
        row = list(state[1])
        sent = []
        words = []
        at = 0
        while at < len(self.own_deeds):
            deed = self.own_deeds[at]
            worths = [worth_of(value, (numbers, row), way, said, self.own_modulus) for value in values_of(deed)]
            change_numbers(numbers, deed, worths, self.own_modulus)
            change_row(row, deed, worths)
            if deed[0] == "send":
                sent.append((deed[1], worths[0]))
            elif deed[0] == "say":
                words.append(worths[0])
            at += 1 + left_out(deed, worths)
        return ((tuple(numbers), tuple(row)), sent, words)
