"""A net as a text, and how it is read."""

from cutrestore.errors import NoText
from cutrestore.figures import read_number
from cutrestore.machinetexts import machine_of, machine_parts, machine_text
from cutrestore.nets import Net

MACHINE_WORD = "machine "


def net_text(net):
    """The text of a net: its machines, its ways, its first letters."""
    rows = [MACHINE_WORD + machine_text(machine) for machine in net.machines()]
    rows += [f"{sort} {source} {goal}" for source, goal, sort in net.ways()]
    rows += [f"letter {way} {said}" for way, said in net.letters()]
    return "\n".join(rows)


def read_pair(row):
    """The word and the two numbers of a row for a way or a letter, or NoText."""
    words = row.split(" ")
    if len(words) != 3 or words[0] not in ("row", "heap", "letter"):
        raise NoText("no such row")
    return (words[0], read_number(words[1]), read_number(words[2]))


def read_net(text):
    """The net that a text writes: NoText, then as its machines, then as the net is refused."""
    if not isinstance(text, str):
        raise NoText("no text")
    # Machines are made when all rows are read: NoText of a later row comes ahead of what they are refused for.
    machines, ways, letters = [], [], []
    for row in text.split("\n"):
        if row.startswith(MACHINE_WORD):
            machines.append(machine_parts(row.removeprefix(MACHINE_WORD)))
        else:
            word, one, other = read_pair(row)
            if word == "letter":
                letters.append((one, other))
            else:
                ways.append((one, other, word))
    return Net([machine_of(parts) for parts in machines], ways, letters)
