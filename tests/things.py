"""The tests' one helper: wrong things, and machines that many tests use."""

from cutrestore.machines import Machine

# Things of all kinds that are no value, no deed, no machine, no way, no text of one.
WRONG_THINGS = [
    None, True, False, 0, 1, -1, 10 ** 59, "", "is", "drop", "letter", "7; 1 0; ", b"", b"letter", b"7; 1 0; ",
    [], (), {}, {"is": 1}, set(), [1], (1,), (None,), (True,), ((),), ([],), ({},), ("",), ("is",), ("number",),
    ("IS", 1), ("is", 1, 2), ("is", "1"), ("is", None), ("is", True), ("is", False), ("is", [1]), ("is", (1,)),
    ("is", ("is", 1)), (("is", 1),), (("letter",),), [("letter",)], ["is", 1], ["number", 0], ["letter"], ["way"],
    ["first"], ["drop"], ("letter", 0), ("letter", None), ("way", 0), ("first", 0), ("first", ()), ("Letter",),
    ("letter ",), (b"letter",), (b"is", 1), ("number", "0"), ("number", True), ("number", False), ("number", None),
    ("number", (0,)), ("number", [0]), ("number", -1), ("number", 4), ("number", 10 ** 59), ("number", 0, 0),
    ("n0",), ("word", 1), ("numbers", 0), ("is", {}), ("is", b"1"), object(), range(3), {"a", "b"}, lambda: 1,
]


def counter(modulus=7, first=0, sends=1):
    """A machine that adds each letter to its number, sends it on and says it."""
    deeds = [("add", 0, ("letter",))]
    deeds += [("send", j, ("number", 0)) for j in range(sends)]
    return Machine(modulus, [first], [], deeds + [("say", ("number", 0))])


def copied(thing):
    """The same lists, tuples and dicts again, to see later whether a thing was changed."""
    if isinstance(thing, (list, tuple)):
        return type(thing)([copied(part) for part in thing])
    return thing
