"""A machine as a text, and how it is read."""

from cutrestore.deeds import form_of
from cutrestore.errors import NoText
from cutrestore.figures import read_number
from cutrestore.machines import Machine


def numbers_text(numbers):
    """Numbers with blanks between."""
    return " ".join([str(number) for number in numbers])


def part_text(part):
    """What follows a deed's word: a number, or a value."""
    if not isinstance(part, tuple):
        return str(part)
    if part[0] == "is":
        return str(part[1])
    if part[0] == "number":
        return f"n{part[1]}"
    return part[0]


def deed_text(deed):
    """A deed by its word and what follows."""
    return " ".join([deed[0]] + [part_text(part) for part in deed[1:]])


def machine_text(machine):
    """The text of a machine."""
    numbers, row = machine.first_state()
    parts = [str(machine.modulus()), numbers_text(numbers), numbers_text(row)]
    return "; ".join(parts + [deed_text(deed) for deed in machine.deeds()])


def read_value(text):
    """The value that a text writes, or NoText."""
    if text in ("letter", "way", "first"):
        return (text,)
    if text in ("n0", "n1", "n2", "n3"):
        return ("number", read_number(text[1:]))
    return ("is", read_number(text))


def read_deed(text):
    """What a text writes in a deed's form, or NoText; it may be no deed yet."""
    words = text.split(" ")
    form = form_of(words[0])
    if form is None or len(words) != len(form) + 1:
        raise NoText("no deed's text")
    parts = [read_value(word) if sort == "value" else read_number(word) for word, sort in zip(words[1:], form)]
    return tuple([words[0]] + parts)


def read_numbers(text):
    """Numbers that a text writes with blanks between, or NoText."""
    return [read_number(word) for word in text.split(" ")]


def machine_parts(text):
    """The modulus, numbers, row and deeds that a text writes, or NoText; they may make no machine yet."""
    if not isinstance(text, str):
        raise NoText("no text")
    parts = text.split("; ")
    if len(parts) < 3:
        raise NoText("too few parts")
    row = [] if parts[2] == "" else read_numbers(parts[2])
    return (read_number(parts[0]), read_numbers(parts[1]), row, [read_deed(part) for part in parts[3:]])


def machine_of(parts):
    """The machine of such parts; BadMachine or BadDeed where they make none."""
    modulus, numbers, row, deeds = parts
    return Machine(modulus, numbers, row, deeds)


def read_machine(text):
    """The machine that a text writes: NoText, then BadMachine, then BadDeed."""
    return machine_of(machine_parts(text))
