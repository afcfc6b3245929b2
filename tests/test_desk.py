"""[27] the desk, row by row."""

import random
import unittest

from cutrestore.alone import Alone
from cutrestore.desk import Desk
from cutrestore.errors import BadDeed, BadMachine, BadNet, Busy, NetError, NoCount, NoDeed, NoLetter, NoMachine, NoMark
from cutrestore.errors import NoName, NoRow, NoText, NotFirst, NotReached, NotRow
from cutrestore.marked import Marked
from cutrestore.nettexts import net_text
from cutrestore.numbered import Numbered
from cutrestore.resting import rest_live
from cutrestore.shown import shown_words
from cutrestore.written import Ahead, Passing
from things import BIG, WRONG_THINGS, lively_net, machines_of, picks_that_may_be, two_counters

SORTS = {"alone": Alone, "numbers": Numbered, "ahead": Ahead, "passing": Passing, "marks": Marked}

TEXT = net_text(two_counters())

# Each row about a live net that needs no more than that it is there, with fitting numbers.
LIVE_ROWS = [
    "pick {} 1 0", "keep {} 0", "write {} 0", "mark {} 0", "take {} 0", "stop {}", "stop {} 0", "stop {} 0 1",
    "rest {} 1", "settle {}", "sure {}", "points {} 0", "let {}", "history {}", "state {} 0", "lying {} 0",
    "words {} 0", "shown {} 0",
]


def desk_with(sort="alone", text=TEXT):
    """A desk with a net n and a live net a of it."""
    desk = Desk()
    desk.say("net n " + text)
    desk.say(f"begin a {sort} n")
    return desk


def answers(desk, *rows):
    return [desk.say(row) for row in rows]


def all_said(desk, name="a", machines=2, ways=2):
    """All that a desk tells of a live net, but by what changes it."""
    rows = [f"history {name}", f"sure {name}", f"stop {name}"]
    rows += [f"{word} {name} {m}" for word in ("points", "state", "words", "shown") for m in range(machines)]
    rows += [f"lying {name} {way}" for way in range(ways)]
    return answers(desk, *rows)


class AnswersTest(unittest.TestCase):
    def test_net_and_begin(self):
        desk = Desk()
        self.assertEqual(desk.say("net n " + TEXT), "ok")
        for sort in SORTS:
            self.assertEqual(desk.say(f"begin a {sort} n"), "ok")

    def test_each_row_of_a_live_net(self):
        desk = desk_with()
        told = [
            ("pick a 1 0", "0 1"), ("pick a 0 0", "1 1"), ("pick a 1 1", "0 2"), ("keep a 0", "2"), ("keep a 1", "1"),
            ("points a 0", "0 2"), ("points a 1", "0 1"), ("sure a", "2 1"), ("history a", "1.0 0.0 1.1"),
            ("state a 0", "7, "), ("state a 1", "58, "), ("lying a 0", "1=3 2=7"), ("lying a 1", "2=-1 3=58"),
            ("words a 0", "3 7"), ("words a 1", "58"), ("shown a 0", "3 7"), ("pick a 1 2", "0 3"),
            ("words a 0", "3 7 6"), ("shown a 0", "3 7"), ("stop a 0", "2 1"), ("words a 0", "3 7"),
            ("let a", "0, 0"), ("points a 0", "2"), ("rest a 3", "3"), ("history a", "1.0 0.0 1.1 0.1 0.2 1.2"),
            ("settle a", "3 3"), ("sure a", "3 3"), ("points a 1", "1 3"), ("stop a 1 0", "3 3"), ("stop a", "3 3"),
        ]
        for row, answer in told:
            with self.subTest(row):
                self.assertEqual(desk.say(row), answer)

    def test_numbers(self):
        desk = desk_with("numbers")
        self.assertEqual(answers(desk, "keep a 0", "keep a 0", "pick a 1 0", "keep a 0", "keep a 1"), [
            "1", "2", "0 1", "3", "1"])

    def test_ahead(self):
        desk = desk_with("ahead")
        rows = ["pick a 1 0", "pick a 1 1", "points a 0", "keep a 0", "stop a 0 1", "let a", "points a 0"]
        self.assertEqual(answers(desk, *rows), ["0 1", "0 2", "0 1 2", "2", "2 0", "0 1, ", "2"])

    def test_passing(self):
        desk = desk_with("passing")
        rows = ["pick a 1 0", "pick a 1 1", "write a 0", "write a 0", "points a 0", "keep a 0", "pick a 1 2", "write a 0"]
        self.assertEqual(answers(desk, *rows), ["0 1", "0 2", "2", "0", "0 1 2", "2", "0 3", "1"])

    def test_marks(self):
        desk = desk_with("marks")
        rows = ["pick a 1 0", "mark a 0", "pick a 0 0", "pick a 0 1", "take a 0", "rest a 9", "take a 1", "points a 0",
                "points a 1", "sure a"]
        self.assertEqual(answers(desk, *rows), ["0 1", "1", "1 1", "1 2", "2", "8", "1", "0 1", "0 2", "1 2"])

    def test_nothing_to_tell(self):
        desk = desk_with()
        rows = ["history a", "words a 0", "shown a 1", "let a", "stop a", "rest a 0", "sure a", "points a 1"]
        self.assertEqual(answers(desk, *rows), ["", "", "", ", ", "0 0", "0", "0 0", "0"])
        self.assertEqual(answers(desk, "pick a 0 0", "lying a 0"), ["1 1", ""])
        desk.say("net one machine 7; 1 0; ")
        desk.say("begin b alone one")
        self.assertEqual(answers(desk, "let b", "state b 0", "sure b", "rest b 120"), ["", "1 0, ", "0", "0"])

    def test_parts_between_commas(self):
        desk = Desk()
        desk.say("net n machine 9; 1 2 3 4; 5 6; drop\nmachine 9; 0; 8\nmachine 9; 0; \nrow 0 0\nletter 0 1\nletter 0 2")
        desk.say("begin a ahead n")
        self.assertEqual(answers(desk, "state a 0", "state a 1", "state a 2"), ["1 2 3 4, 5 6", "0, 8", "0, "])
        self.assertEqual(answers(desk, "rest a 1", "state a 0", "rest a 1", "state a 0"), [
            "1", "1 2 3 4, 6", "1", "1 2 3 4, "])
        self.assertEqual(answers(desk, "let a", "keep a 0", "let a", "let a"), [", , ", "2", "0 1, , ", ", , "])

    def test_a_net_s_text_has_line_feeds_and_any_order_of_rows(self):
        desk = Desk()
        self.assertEqual(desk.say("net n row 0 0\nletter 0 5\nmachine 9; 0; ; say letter\nletter 0 -7"), "ok")
        desk.say("begin a alone n")
        self.assertEqual(answers(desk, "lying a 0", "rest a 5", "words a 0"), ["0=5 1=-7", "2", "5 2"])

    def test_answers_are_texts(self):
        desk = desk_with("marks")
        for row in ["pick a 1 0", "mark a 0", "stop a 0", "settle a", "let a", "history a", "lying a 0", "state a 0"]:
            self.assertIsInstance(desk.say(row), str)


class NamesTest(unittest.TestCase):
    def test_names_of_one_and_of_eight_letters(self):
        desk = Desk()
        for name in ("a", "z", "ab", "abcdefgh", "zzzzzzzz", "net", "begin", "pick", "alone", "marks"):
            self.assertEqual(answers(desk, f"net {name} {TEXT}", f"begin live alone {name}", "pick live 1 0"), [
                "ok", "ok", "0 1"])
            self.assertEqual(answers(desk, f"begin {name} ahead {name}", f"pick {name} 1 0"), ["ok", "0 1"])

    def test_words_in_a_name_s_place_that_are_none(self):
        desk = desk_with()
        before = all_said(desk)
        for name in ("abcdefghi", "A", "aB", "a1", "1", "0", "", "a_", "a-b", "a.", "a\n", "\ta", "nnnnnnnnn", "=", "a,"):
            rows = [row.format(name) for row in LIVE_ROWS]
            rows += [f"net {name} {TEXT}", f"begin {name} alone n", f"begin b alone {name}", f"begin {name} alone x"]
            for row in rows:
                with self.subTest(row), self.assertRaises(NoName):
                    desk.say(row)
        self.assertEqual(all_said(desk), before)

    def test_nothing_is_kept_by_it(self):
        desk = desk_with()
        for name in ("b", "n", "abcdefgh", "aa"):
            for row in LIVE_ROWS:
                with self.subTest((row, name)), self.assertRaises(NoName):
                    desk.say(row.format(name))
        for name in ("b", "a", "abcdefgh", "nn"):
            with self.subTest(name), self.assertRaises(NoName):
                desk.say(f"begin c alone {name}")
            with self.assertRaises(NoName):
                desk.say("sure c")

    def test_an_empty_desk(self):
        for row in LIVE_ROWS + ["begin {} alone {}"]:
            with self.subTest(row), self.assertRaises(NoName):
                Desk().say(row.format("a", "a"))

    def test_two_desks(self):
        one, other = desk_with(), Desk()
        with self.assertRaises(NoName):
            other.say("sure a")
        self.assertEqual(one.say("sure a"), "0 0")

    def test_a_live_net_begun_anew(self):
        desk = desk_with()
        answers(desk, "pick a 1 0", "keep a 0")
        self.assertEqual(answers(desk, "begin a passing n", "history a", "points a 0", "write a 0"), ["ok", "", "0", "0"])

    def test_a_net_told_anew(self):
        desk = desk_with()
        desk.say("pick a 1 0")
        desk.say("net n machine 9; 0; ")
        # What was begun goes on with the net of which it was begun.
        self.assertEqual(answers(desk, "pick a 1 1", "sure a", "begin b alone n", "sure b"), ["0 2", "0 0", "ok", "0"])
        self.assertEqual(answers(desk, "begin a alone n", "sure a", "history a"), ["ok", "0", ""])

    def test_nets_and_live_nets_share_one_set_of_names(self):
        desk = desk_with()
        self.assertEqual(desk.say("net a machine 9; 0; "), "ok")
        with self.assertRaises(NoName):
            desk.say("sure a")
        self.assertEqual(answers(desk, "begin b alone a", "sure b"), ["ok", "0"])
        self.assertEqual(answers(desk, "begin n alone n", "sure n"), ["ok", "0 0"])
        with self.assertRaises(NoName):
            desk.say("begin c alone n")
        self.assertEqual(answers(desk, "begin b alone a", "sure n", "pick n 1 0"), ["ok", "0 0", "0 1"])

    def test_two_live_nets_of_one_net(self):
        desk = desk_with()
        desk.say("begin b numbers n")
        before = all_said(desk, "b")
        answers(desk, "pick a 1 0", "keep a 0", "settle a", "let a", "pick a 1 1", "stop a 0")
        self.assertEqual(all_said(desk, "b"), before)
        self.assertEqual(answers(desk, "keep b 0", "history a"), ["1", "1.0"])


class NoRowTest(unittest.TestCase):
    def setUp(self):
        self.desk = desk_with()
        self.desk.say("pick a 1 0")
        self.before = all_said(self.desk)

    def refused(self, row):
        with self.subTest(row), self.assertRaises(NoRow):
            self.desk.say(row)

    def tearDown(self):
        self.assertEqual(all_said(self.desk), self.before)

    def test_what_is_no_text(self):
        for thing in [thing for thing in WRONG_THINGS if not isinstance(thing, str)] + [b"sure a", ["sure a"], BIG]:
            self.refused(thing)

    def test_unknown_words(self):
        for row in ("", " ", "x", "a", "Sure a", "SURE a", "sure\ta", "sure\na", "sur a", "surea", "net\nn " + TEXT, "nets n x",
                    "take_ a 0", "say a 0", "run a", "reach a 0", "store a 0", "in_hand a", "marks a", "0", "let_go a",
                    "begins a alone n", "\n", "\tsure a", "is", "letter"):
            self.refused(row)

    def test_too_few_words(self):
        rows = ["net", "net n", "begin", "begin a", "begin a alone", "net ", "begin  n"]
        for row in LIVE_ROWS:
            words = row.format("a").split(" ")
            rows += [words[0]] + [" ".join(words[:-1])] * (len(words) > 2 and words[0] != "stop")
        for row in rows:
            self.refused(row)

    def test_too_many_words(self):
        rows = ["begin b alone n n", "begin b alone n 0"]
        rows += [row.format("a") + more for row in LIVE_ROWS for more in (" 0", " a") if row[:4] + more != "stop 0"]
        for row in rows:
            self.refused(row)

    def test_two_blanks(self):
        for row in ("sure  a", "pick a  1 0", "pick a 1  0", "pick  a 1 0", "stop a  0", "stop a 0  1", "begin b  alone n",
                    "begin  b alone n", "begin b alone  n", "points a  0", "let  a"):
            self.refused(row)

    def test_blanks_at_either_end(self):
        for row in [row.format("a") for row in LIVE_ROWS] + ["begin b alone n"]:
            self.refused(" " + row)
            self.refused(row + " ")
            self.refused("  " + row + "  ")
        self.refused(" net b " + TEXT)

    def test_numbers_that_are_not_written_so(self):
        for text in ("00", "01", "+1", "-0", "", "-", "--1", "1.0", "1e1", "1_0", "0x1", "a", "one", "1\n", "\t1", "-01",
                     "1,", "True", "None", "1=2", "0.0"):
            for row in ("pick a {} 0", "pick a 1 {}", "keep a {}", "write a {}", "mark a {}", "take a {}", "stop a {}",
                        "stop a 0 {}", "rest a {}", "points a {}", "state a {}", "lying a {}", "words a {}", "shown a {}"):
                self.refused(row.format(text))

    def test_unknown_sorts(self):
        for sort in ("", "Alone", "ALONE", "alon", "number", "mark", "written", "row", "heap", "live", "0", "marks\n"):
            self.refused(f"begin b {sort} n")

    def test_no_row_comes_ahead_of_no_name(self):
        for row in ("points B x", "points b", "begin B wrong C", "pick zzz 0", "stop zzz x", "sure A 0", "net A", "sure A B"):
            self.refused(row)

    def test_a_word_without_signs_in_a_name_s_place(self):
        # It stands where a name does, so these are such rows, of a word that is no name.
        for row in ("sure ", "points  0", "stop ", "net  " + TEXT, "begin  alone n", "begin b alone ", "pick  1 0"):
            with self.subTest(row), self.assertRaises(NoName):
                self.desk.say(row)


class NoNameOrderTest(unittest.TestCase):
    def test_from_the_left(self):
        desk = desk_with()
        # Both words are wrong here; that the first one is told is seen where the other one would do.
        for row in ("begin B alone x", "begin B alone n", "begin b alone x", "begin a alone a", "begin 1 alone 2"):
            with self.subTest(row), self.assertRaises(NoName):
                desk.say(row)
        self.assertEqual(desk.say("sure a"), "0 0")

    def test_ahead_of_what_the_stages_refuse(self):
        desk = desk_with()
        for row in ("net A nothing", "net abcdefghi machine", "pick b 9 9", "points B 9", "rest b 121", "mark b 9", "keep n 9"):
            with self.subTest(row), self.assertRaises(NoName):
                desk.say(row)


class NoDeedTest(unittest.TestCase):
    def test_what_a_way_of_keeping_does_not_know(self):
        known = {"keep": ("alone", "numbers", "ahead", "passing"), "write": ("passing",), "mark": ("marks",),
                 "take": ("marks",)}
        for sort in SORTS:
            desk = desk_with(sort)
            before = all_said(desk)
            for word in known:
                if sort not in known[word]:
                    # Whatever the number is: NoDeed comes ahead of NoMachine and NoMark.
                    for number in ("0", "1", "2", "-1", str(BIG)):
                        with self.subTest((sort, word, number)), self.assertRaises(NoDeed):
                            desk.say(f"{word} a {number}")
            self.assertEqual(all_said(desk), before)

    def test_what_each_knows(self):
        for sort in SORTS:
            for row in LIVE_ROWS:
                desk = desk_with(sort)
                try:
                    desk.say(row.format("a"))
                except (NoDeed, NoMark):
                    self.assertIn(row.split(" ")[0], ("keep", "write", "mark", "take"))

    def test_behind_the_other_two(self):
        desk = desk_with("marks")
        for row, error in [("keep a", NoRow), ("keep a x", NoRow), ("keep b 0", NoName), ("keep n 0", NoName),
                           ("keep A 0", NoName), ("write a 0 0", NoRow), ("write  0", NoName)]:
            with self.subTest(row), self.assertRaises(error):
                desk.say(row)


class StagesTest(unittest.TestCase):
    def refused(self, desk, row, error, **values):
        with self.subTest(row), self.assertRaises(error) as told:
            desk.say(row)
        for name, value in values.items():
            self.assertEqual(getattr(told.exception, name), value)

    def test_nets(self):
        desk = desk_with()
        before = all_said(desk)
        rows = [
            ("", NoText, {}), ("x", NoText, {}), (" machine 9; 0; ", NoText, {}), ("machine 9; 0; \n", NoText, {}),
            ("machine  9; 0; ", NoText, {}), ("machine 1; 0; ", BadMachine, {}), ("machine 9; 9; ", BadMachine, {}),
            ("machine 9; 0; ; drop; say n1", BadDeed, {"at": 1}), ("row 0 0", BadNet, {}),
            ("machine 9; 0; \nrow 0 1", BadNet, {}), ("machine 9; 0; \nletter 0 1", BadNet, {}),
        ]
        for text, error, values in rows:
            for name in ("n", "a", "new"):
                self.refused(desk, f"net {name} {text}", error, **values)
        # No name was taken or lost.
        self.assertEqual(all_said(desk), before)
        self.refused(desk, "begin b alone new", NoName)
        self.assertEqual(desk.say("begin b alone n"), "ok")

    def test_begin(self):
        desk = desk_with()
        desk.say("net h machine 9; 0; \nrow 0 0\nheap 0 0\nheap 0 0")
        for name in ("b", "a", "h"):
            self.refused(desk, f"begin {name} marks h", NotRow, way=1)
        self.refused(desk, "sure b", NoName)
        self.assertEqual(answers(desk, "sure a", "begin b alone h"), ["0 0", "ok"])

    def test_live_nets(self):
        for sort in SORTS:
            desk = desk_with(sort)
            desk.say("pick a 1 0")
            before = all_said(desk)
            for row in ("pick a 1 0", "pick a 2 0", "pick a -1 0", f"pick a {BIG} -{BIG}", "lying a 2", "lying a -1"):
                self.refused(desk, row, NoLetter, at=0)
            for row in ("pick a 1 2", "pick a 0 1"):
                self.refused(desk, row, NotFirst, at=0)
            for row in ("stop a 2", "stop a 0 0", "stop a -1", "stop a 0 1 2", f"stop a {BIG}", "points a 2", "state a -1",
                        "words a 2", "shown a 2", f"shown a -{BIG}", "points a -1"):
                self.refused(desk, row, NoMachine)
            for row in ("rest a -1", "rest a 121", f"rest a {10 ** 60 - 1}"):
                self.refused(desk, row, NoCount)
            self.assertEqual(all_said(desk), before)

    def test_keeps_and_writings(self):
        for sort in ("alone", "numbers", "ahead", "passing"):
            for m in (2, -1, BIG):
                self.refused(desk_with(sort), f"keep a {m}", NoMachine)
        self.refused(desk_with("passing"), "write a 2", NoMachine)

    def test_marks(self):
        desk = desk_with("marks")
        self.refused(desk, "mark a 2", NoMachine)
        for way in (0, 1, 2, -1, BIG):
            self.refused(desk, f"take a {way}", NoMark)
        desk.say("mark a 0")
        self.refused(desk, "mark a 2", NoMachine)
        self.refused(desk, "mark a 1", Busy)
        self.refused(desk, "take a 0", NotFirst, at=0)
        self.refused(desk, "take a 1", NoMark)
        desk.say("net n machine 9; 0; \nmachine 9; 0; \nmachine 9; 0; \nrow 1 0")
        desk.say("begin b marks n")
        self.refused(desk, "mark b 0", NotReached, machine=1)
        self.refused(desk, "mark b 1", NotReached, machine=2)

    def test_every_refusal_is_a_net_error(self):
        for row in ("", "sure b", "keep a 0", "pick a 9 9"):
            with self.assertRaises(NetError):
                desk_with("marks").say(row)


class DrawnRowsTest(unittest.TestCase):
    """Rows that are drawn, held against live nets of one's own."""

    def drawn_row(self, chance, sort, live):
        machines = machines_of(live)
        words = ["pick"] * 4 + ["stop", "rest", "settle", "let", "keep", "write", "mark", "take", "take"]
        word = chance.choice(words)
        if word == "pick":
            picks = picks_that_may_be(live.run()) or [(0, 0)]
            return [word] + list(chance.choice(picks))
        if word == "stop":
            return [word] + chance.sample(machines, chance.randrange(len(machines) + 1))
        if word in ("settle", "let"):
            return [word]
        if word == "take" and sort == "marks" and live.marks():
            return [word, chance.choice(live.marks())[0]]
        return [word, chance.randrange(len(machines) + 1)]

    def told_by(self, live, word, *numbers):
        """What a live net tells: the answer as it is to be, or the class of the refusal."""
        if not hasattr(live, word) and word in ("keep", "write", "mark", "take"):
            return NoDeed
        try:
            if word == "rest":
                return str(rest_live(live, *numbers))
            told = live.stop(list(numbers))[0] if word == "stop" else None
            told = live.let_go() if word == "let" else told
            told = getattr(live, word)(*numbers) if told is None else told
        except NetError as refusal:
            return type(refusal)
        if word == "let":
            return ", ".join(" ".join(map(str, went)) for went in told)
        return str(told) if isinstance(told, int) else " ".join(map(str, told))

    def said_by(self, desk, row):
        try:
            return desk.say(row)
        except NetError as refusal:
            return type(refusal)

    def compare(self, desk, sort, live):
        run = live.run()
        self.assertEqual(desk.say(f"history {sort}"), " ".join(f"{way}.{k}" for way, k in live.history()))
        self.assertEqual(desk.say(f"sure {sort}"), " ".join(map(str, live.sure())))
        for m in machines_of(live):
            told = [live.points(m), run.words(m), shown_words(live, m)]
            rows = [f"points {sort} {m}", f"words {sort} {m}", f"shown {sort} {m}"]
            self.assertEqual(answers(desk, *rows), [" ".join(map(str, numbers)) for numbers in told])
            state = [" ".join(map(str, part)) for part in run.state(m)]
            self.assertEqual(desk.say(f"state {sort} {m}"), state[0] + ", " + state[1])
        for way in range(len(run.net().ways())):
            self.assertEqual(desk.say(f"lying {sort} {way}"), " ".join(f"{k}={said}" for k, said in run.lying(way)))

    def test_drawn_rows(self):
        answered = set()
        for seed in range(12):
            chance = random.Random(seed)
            net = lively_net(chance, 3, 4, ("row",))
            desk = Desk()
            desk.say("net n " + net_text(net))
            nets = {sort: SORTS[sort](net) for sort in SORTS}
            for sort in SORTS:
                desk.say(f"begin {sort} {sort} n")
            for turn in range(80):
                sort = chance.choice(list(SORTS) + ["marks"])
                word, *numbers = self.drawn_row(chance, sort, nets[sort])
                told = self.told_by(nets[sort], word, *numbers)
                self.assertEqual(self.said_by(desk, " ".join(map(str, [word, sort] + numbers))), told)
                answered.add((word, told if isinstance(told, type) else str))
                if turn % 6 == 0:
                    self.compare(desk, sort, nets[sort])
            for sort in SORTS:
                self.compare(desk, sort, nets[sort])
        for word in ("pick", "stop", "rest", "settle", "let", "keep", "write", "mark", "take"):
            self.assertIn((word, str), answered)
        for word, error in [("mark", Busy), ("take", NoMark), ("keep", NoMachine), ("keep", NoDeed), ("write", NoDeed)]:
            self.assertIn((word, error), answered)


if __name__ == "__main__":
    unittest.main()
