"""The tests' one helper: wrong things, and machines that many tests use."""

from cutrestore.machines import Machine
from cutrestore.nets import Net

# Things of all kinds that are no value, no deed, no machine, no way, no text of one.
WRONG_THINGS = [
    None, True, False, 0, 1, -1, 10 ** 59, "", "is", "drop", "letter", "7; 1 0; ", b"", b"letter", b"7; 1 0; ",
    [], (), {}, {"is": 1}, set(), [1], (1,), (None,), (True,), ((),), ([],), ({},), ("",), ("is",), ("number",),
    ("IS", 1), ("is", 1, 2), ("is", "1"), ("is", None), ("is", True), ("is", False), ("is", [1]), ("is", (1,)),
    ("is", ("is", 1)), (("is", 1),), (("letter",),), [("letter",)], ["is", 1], ["number", 0], ["letter"], ["way"],
    ["first"], ["drop"], ("letter", 0), ("letter", None), ("way", 0), ("first", 0), ("first", ()), ("Letter",),
    ("letter ",), (b"letter",), (b"is", 1), ("number", "0"), ("number", True), ("number", False), ("number", None),
    ("number", (0,)), ("number", [0]), ("number", -1), ("number", 4), ("number", 10 ** 59), ("number", 0, 0),
    ("n0",), ("word", 1), ("numbers", 0), ("is", {}), ("is", b"1"), object(), range(3), {"a", "b"}, lambda: 1,
]


def counter(modulus=7, first=0, sends=1):
    """A machine that adds each letter to its number, sends it on and says it."""
    deeds = [("add", 0, ("letter",))]
    deeds += [("send", j, ("number", 0)) for j in range(sends)]
    return Machine(modulus, [first], [], deeds + [("say", ("number", 0))])


def copied(thing):
    """The same lists, tuples and dicts again, to see later whether a thing was changed."""
    if isinstance(thing, (list, tuple)):
        return type(thing)([copied(part) for part in thing])
    return thing


def random_value(chance, many):
    """Any value, by a source of chance that the test has set."""
    number = chance.choice([0, 1, -1, 5, -10 ** 59, chance.randrange(-10 ** 60 + 1, 10 ** 60)])
    return chance.choice([("is", number), ("number", chance.randrange(many)), ("letter",), ("way",), ("first",)])


def random_deed(chance, many):
    """Any deed."""
    word = chance.choice(["set", "add", "times", "put", "drop", "send", "send", "say", "skip"])
    value = random_value(chance, many)
    if word in ("set", "add", "times"):
        return (word, chance.randrange(many), value)
    if word == "drop":
        return (word,)
    if word == "send":
        return (word, chance.randrange(4), value)
    if word == "skip":
        return (word, value, random_value(chance, many), chance.choice([1, 2, 3, 24]))
    return (word, value)


def random_machine(chance):
    """Any machine."""
    modulus = chance.choice([2, 3, 7, 1000, 10 ** 12])
    numbers = [chance.randrange(modulus) for i in range(chance.randrange(1, 5))]
    row = [chance.randrange(modulus) for i in range(chance.choice([0, 0, 1, 3, 12]))]
    deeds = [random_deed(chance, len(numbers)) for i in range(chance.choice([0, 1, 4, 8, 24]))]
    return Machine(modulus, numbers, row, deeds)


def random_net(chance):
    """Any net that has a way and a first letter."""
    many = chance.randrange(1, 6)
    machines = [random_machine(chance) for m in range(many)]
    ends = [(chance.randrange(many), chance.randrange(many)) for way in range(chance.randrange(1, 11))]
    ways = [(source, goal, chance.choice(["row", "heap"])) for source, goal in ends]
    letters = [(chance.randrange(len(ways)), chance.randrange(-99, 99)) for i in range(chance.randrange(1, 21))]
    return Net(machines, ways, letters)
