"""Values: what a deed reckons with."""

from cutrestore.figures import is_whole, is_within


def is_value(thing, many):
    """Whether anything is a value, where the state has so many numbers."""
    if not isinstance(thing, tuple) or len(thing) == 0 or not isinstance(thing[0], str):
        return False
    word = thing[0]
    if word in ("letter", "way", "first"):
        return len(thing) == 1
    if len(thing) != 2:
        return False
    if word == "is":
        return is_whole(thing[1])
    return word == "number" and is_within(thing[1], 0, many)


def plain_worth(value, state, way, said):
    """What a value is, ahead of counting modulo the modulus."""
    word = value[0]
    if word == "is":
        return value[1]
    if word == "number":
        return state[0][value[1]]
    if word == "letter":
        return said
    if word == "way":
        return way
    return state[1][0] if len(state[1]) > 0 else 0


def worth_of(value, state, way, said, modulus):
    """What a value counts in a state, on a letter that says so and came by that way."""
    return plain_worth(value, state, way, said) % modulus
