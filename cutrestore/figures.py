"""The package's one helper: whole numbers, how they are written, and lists of so many things."""

from cutrestore.errors import NoText

FIGURES = "0123456789"


def is_whole(thing):
    """Whether anything is a whole number; True and False are none."""
    return isinstance(thing, int) and not isinstance(thing, bool)


def is_within(thing, low, beyond):
    """Whether anything is a whole number from low on and below beyond."""
    return is_whole(thing) and low <= thing < beyond


def is_list(things, least, most):
    """Whether anything is a list or a tuple with at least and at most so many things."""
    return isinstance(things, (list, tuple)) and least <= len(things) <= most


def is_number_text(text):
    """Whether a text is a number in figures, and written in the one way."""
    figures = text[1:] if text.startswith("-") else text
    if figures == "0":
        return text == "0"
    if figures == "" or figures.startswith("0"):
        return False
    return all([sign in FIGURES for sign in figures])


def read_number(text):
    """The whole number that a text writes, or NoText."""
    if not is_number_text(text):
        raise NoText("no number")
    # Python's own reading of a text refuses very long ones; this does not.
    number = 0
    for sign in text.lstrip("-"):
        number = number * 10 + FIGURES.index(sign)
    return -number if text.startswith("-") else number
