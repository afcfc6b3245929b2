"""The desk: nets and live nets by names, told by rows of text and answered by texts."""

from cutrestore.alone import Alone
from cutrestore.errors import NoDeed, NoName, NoRow
from cutrestore.figures import is_number_text, read_number
from cutrestore.machinetexts import numbers_text
from cutrestore.marked import Marked
from cutrestore.nettexts import read_net
from cutrestore.numbered import Numbered
from cutrestore.resting import rest_live
from cutrestore.shown import shown_words
from cutrestore.written import Ahead, Passing

SMALL_LETTERS = "abcdefghijklmnopqrstuvwxyz"

LONGEST_NAME = 8

SORTS = ("alone", "numbers", "ahead", "passing", "marks")

# The deeds that not each way of keeping knows.
KNOWN_TO = {
    "keep": ("alone", "numbers", "ahead", "passing"),
    "write": ("passing",),
    "mark": ("marks",),
    "take": ("marks",),
}


def answer_pick(live, numbers):
    """The event."""
    return numbers_text(live.pick(numbers[0], numbers[1]))


def answer_keep(live, numbers):
    """What keeping tells: a count, or a number."""
    return str(live.keep(numbers[0]))


def answer_write(live, numbers):
    """How many letters were written."""
    return str(live.write(numbers[0]))


def answer_mark(live, numbers):
    """The count at which the machine kept."""
    return str(live.mark(numbers[0]))


def answer_take(live, numbers):
    """The count at which the way's goal kept."""
    return str(live.take(numbers[0]))


def answer_stop(live, numbers):
    """The line to which all go back."""
    return numbers_text(live.stop(numbers)[0])


def answer_rest(live, numbers):
    """How many picks were done."""
    return str(rest_live(live, numbers[0]))


def answer_settle(live, numbers):
    """The sure line, when all is settled."""
    return numbers_text(live.settle())


def answer_sure(live, numbers):
    """The sure line."""
    return numbers_text(live.sure())


def answer_points(live, numbers):
    """The points of a machine."""
    return numbers_text(live.points(numbers[0]))


def answer_let(live, numbers):
    """For each machine the points that went."""
    return ", ".join([numbers_text(went) for went in live.let_go()])


def answer_history(live, numbers):
    """The picks."""
    return " ".join([f"{way}.{number}" for way, number in live.history()])


def answer_state(live, numbers):
    """The numbers and the row of a machine's state."""
    return ", ".join([numbers_text(part) for part in live.run().state(numbers[0])])


def answer_lying(live, numbers):
    """The letters that lie on a way."""
    return " ".join([f"{number}={said}" for number, said in live.run().lying(numbers[0])])


def answer_words(live, numbers):
    """The words of a machine."""
    return numbers_text(live.run().words(numbers[0]))


def answer_shown(live, numbers):
    """The words of a machine that were shown."""
    return numbers_text(shown_words(live, numbers[0]))


# By the first word of a row about a live net: how it is answered.
ANSWERS = {
    "pick": answer_pick,
    "keep": answer_keep,
    "write": answer_write,
    "mark": answer_mark,
    "take": answer_take,
    "stop": answer_stop,
    "rest": answer_rest,
    "settle": answer_settle,
    "sure": answer_sure,
    "points": answer_points,
    "let": answer_let,
    "history": answer_history,
    "state": answer_state,
    "lying": answer_lying,
    "words": answer_words,
    "shown": answer_shown,
}


def is_so_many(word, many):
    """Whether a row about a live net may have so many numbers."""
    if word == "stop":
        return True
    if word in ("settle", "sure", "let", "history"):
        return many == 0
    return many == (2 if word == "pick" else 1)


def is_live_row(words):
    """Whether words are a row about a live net, whatever stands in the name's place."""
    if words[0] not in ANSWERS or len(words) < 2:
        return False
    texts = words[2:]
    return is_so_many(words[0], len(texts)) and all([is_number_text(text) for text in texts])


def need_name(word):
    """NoName where a word is no name."""
    if not 1 <= len(word) <= LONGEST_NAME or not all([sign in SMALL_LETTERS for sign in word]):
        raise NoName("no name")


def begun_live(sort, net):
    """A new live net of a sort, or as its way of keeping refuses the net."""
    if sort == "alone":
        return Alone(net)
    if sort == "numbers":
        return Numbered(net)
    if sort == "ahead":
        return Ahead(net)
    if sort == "passing":
        return Passing(net)
    return Marked(net)


class Desk:
    """Keeps nets and live nets by names."""

    def __init__(self):
        # Both share one set of names: ("net", net), or a live net with its sort ahead of it.
        self.things_kept = {}

    def say(self, row):
        """The answer to a row; or NoRow, NoName, NoDeed, and as the stages refuse."""
        if not isinstance(row, str):
            raise NoRow("no text")
        words = row.split(" ")
        if words[0] == "net":
            return self.tell_net(row)
        if words[0] == "begin":
            return self.begin_live(words)
        return self.ask_live(words)

    def tell_net(self, row):
        """Keep the net that a row tells."""
        # The text of a net has blanks of its own, so it is all that is left.
        name, blank, text = row.partition(" ")[2].partition(" ")
        if blank == "":
            raise NoRow("no net's text")
        need_name(name)
        self.things_kept[name] = ("net", read_net(text))
        return "ok"

    def begin_live(self, words):
        """Keep a new live net."""
        if len(words) != 4 or words[2] not in SORTS:
            raise NoRow("no such row")
        name, sort, net_name = words[1:]
        need_name(name)
        self.need_kept(net_name, ("net",))
        self.things_kept[name] = (sort, begun_live(sort, self.things_kept[net_name][1]))
        return "ok"

    def ask_live(self, words):
        """Answer a row about a live net."""
        if not is_live_row(words):
            raise NoRow("no such row")
        word, name, *texts = words
        self.need_kept(name, SORTS)
        sort, live = self.things_kept[name]
        if sort not in KNOWN_TO.get(word, SORTS):
            raise NoDeed("not known to this way of keeping")
        answer = ANSWERS[word]
        return answer(live, [read_number(text) for text in texts])

    def need_kept(self, name, sorts):
        """NoName where nothing of these sorts is kept by a word; so, too, where it is no name."""
        if name not in self.things_kept or self.things_kept[name][0] not in sorts:
            raise NoName("nothing is kept by this name")
