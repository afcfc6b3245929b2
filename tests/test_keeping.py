"""[2, 3], [18, 19], [24, 25] of all five ways of keeping: drawn deeds, held against a plain player."""

import random
import unittest

from cutrestore.alone import Alone
from cutrestore.cuts import orphans_of
from cutrestore.errors import NetError, NoLetter, NoMachine, NotFirst
from cutrestore.marked import Marked
from cutrestore.numbered import Numbered
from cutrestore.resting import rest_live
from cutrestore.runs import Run, played_run
from cutrestore.shown import shown_words
from cutrestore.written import Ahead, Passing
from things import BIG, all_told, copied, counts_of, crossing_run, fallen, latest_by_hearsay, lively_net, machines_of
from things import picked, picks_that_may_be, plainly_played, told_live, two_counters

SORTS = {"alone": Alone, "numbers": Numbered, "ahead": Ahead, "passing": Passing, "marks": Marked}


class Player:
    """A plain live net: it holds its picks, what was kept and how far was written, and reckons all else anew."""

    def __init__(self, sort, net):
        self.sort, self.net, self.picks = sort, net, []
        self.kept = [[(0, 0)] for machine in net.machines()]
        self.written = [0 for machine in net.machines()]
        self.bears = {}
        # Of the cut in hand: where machines kept, where marks lie, which ways' parts are open and what came there.
        self.hand, self.lies, self.parts, self.done = None, {}, {}, []
        self.played = Run(net)

    def run(self):
        if self.played.schedule() != self.picks:
            self.played = played_run(self.net, self.picks)
        return self.played

    def points(self, m):
        if self.sort in ("ahead", "passing"):
            return list(range(self.kept[m][0][0], self.written[m] + 1))
        return sorted({c for c, number in self.kept[m]})

    def reach(self, m):
        count = self.run().count(m)
        if self.sort in ("ahead", "passing"):
            return list(range(self.kept[m][0][0], count + 1))
        return sorted(set(self.points(m)) | {count})

    def pick(self, way, number):
        before, run = self.run(), played_run(self.net, self.picks + [(way, number)])
        m, c = event = run.worked_by(way, number)
        if self.hand and self.hand[m] is not None and way in self.parts and self.parts[way][1]:
            self.parts[way][0].append((number, run.said(way, number)))
        mine = self.kept[m][-1][1]
        borne = self.bears.get((way, number), 0)
        if self.sort == "numbers" and borne > mine:
            self.kept[m].append((c - 1, borne))
        if self.sort == "ahead":
            self.written[m] = c
        for way_out in range(len(self.net.ways())):
            for letter in range(before.put_many(way_out), run.put_many(way_out)):
                self.bears[(way_out, letter)] = max(borne, mine)
        self.picks.append((way, number))
        return event

    def write(self, m):
        many = self.run().count(m) - self.written[m]
        self.written[m] += many
        return many

    def keep(self, m):
        self.write(m)
        count, number = self.run().count(m), self.kept[m][-1][1] + 1
        if self.sort == "numbers":
            self.kept[m].append((count, number))
            return number
        if self.kept[m][-1][0] < count:
            self.kept[m].append((count, 0))
        return count

    def mark(self, m):
        self.hand = [None for machine in self.net.machines()]
        self.parts = {way: [[], True] for way in range(len(self.net.ways()))}
        return self.come(m)

    def take(self, way):
        del self.lies[way]
        # What came ahead of the mark is closed; what comes behind it is not of this cut.
        self.parts[way][1] = False
        return self.come(self.net.ways()[way][1])

    def come(self, m):
        run = self.run()
        if self.hand[m] is None:
            self.hand[m] = run.count(m)
            self.lies.update({way: run.put_many(way) for way in self.net.ways_out(m)})
        c = self.hand[m]
        if None not in self.hand and not [way for way in self.parts if self.parts[way][1]]:
            self.finish(tuple(self.hand), [self.parts[way][0] for way in sorted(self.parts)])
        return c

    def finish(self, counts, lists):
        self.done.append((counts, lists))
        self.kept = [keeps + ([(c, 0)] if keeps[-1][0] < c else []) for keeps, c in zip(self.kept, counts)]
        self.hand, self.lies = None, {}

    def marks(self):
        return sorted(self.lies.items())

    def may_be(self):
        picks = picks_that_may_be(self.run())
        return [(way, number) for way, number in picks if number < self.lies.get(way, number + 1)]

    def rest(self, most):
        many = 0
        while many < most and self.may_be():
            self.pick(*min(self.may_be()))
            many += 1
        return many

    def shown(self, m):
        return self.run().words_behind(m, self.sure()[m])

    def line(self, stopped):
        machines = range(len(self.kept))
        return latest_by_hearsay(self.run(), [self.points(m) if m in stopped else self.reach(m) for m in machines])

    def sure(self):
        return self.line(range(len(self.kept)))

    def stop(self, stopped):
        run, cut = self.run(), self.line(stopped)
        if stopped:
            self.hand, self.lies = None, {}
        events = [run.worked_by(*pick) for pick in self.picks]
        self.picks = [pick for pick, (m, c) in zip(self.picks, events) if c <= cut[m]]
        self.kept = [[keep for keep in keeps if keep[0] <= c] for keeps, c in zip(self.kept, cut)]
        self.written = [min(c, far) for far, c in zip(self.written, cut)]
        put = self.run()
        self.bears = {(way, k): n for (way, k), n in self.bears.items() if k < put.put_many(way)}
        return cut

    def let_go(self):
        went = []
        for m, c in enumerate(self.sure()):
            least = max(count for count, number in self.kept[m] if count <= c)
            went.append([point for point in self.points(m) if point < least])
            self.kept[m] = [keep for keep in self.kept[m] if keep[0] >= least]
        return went

    def settle(self):
        if self.sort == "marks":
            run = self.run()
            self.finish(counts_of(run), [run.lying(way) for way in range(len(self.net.ways()))])
            return self.sure()
        for m in range(len(self.kept)):
            (self.write if self.sort in ("ahead", "passing") else self.keep)(m)
        return self.sure()

    def store(self, m):
        run, first = self.run(), self.kept[m][0][0]
        letters = []
        for way, number in self.picks:
            goal, c = run.worked_by(way, number)
            if goal == m and first < c <= self.written[m]:
                letters.append((c, self.net.ways_in(m).index(way), run.said(way, number)))
        return ([(c, run.state_behind(m, c)) for c, number in self.kept[m]], letters)

    def keeps(self, m):
        return [keep for keep in self.kept[m] if keep[1] > 0]


def deeds_of(sort):
    """The names of the deeds that a way of keeping knows, often those that are to be drawn often."""
    deeds = ["pick"] * 12 + ["stop", "let_go", "settle", "rest"]
    if sort == "marks":
        return deeds * 2 + ["mark"] * 6 + ["take"] * 18
    return deeds + ["keep"] * 3 + (["write"] if sort == "passing" else [])


def drawn_deed(chance, player):
    """The name of a deed that is not refused, and what is handed to it."""
    machines = list(range(len(player.kept)))
    name = chance.choice(deeds_of(player.sort))
    if name == "pick" and player.may_be():
        return (name, list(chance.choice(player.may_be())))
    if name == "rest":
        return (name, [chance.choice([0, 1, 2, 5])])
    if name in ("let_go", "settle"):
        return (name, [])
    if name in ("keep", "write") or name == "mark" and player.hand is None:
        return (name, [chance.choice(machines)])
    run = player.run()
    ways = [way for way, ahead in player.marks() if not run.lying(way) or run.lying(way)[0][0] >= ahead]
    if name == "take" and ways:
        return (name, [chance.choice(ways)])
    if name == "stop" or name == "pick":
        return ("stop", [chance.sample(machines, chance.randrange(len(machines) + 1))])
    return ("rest", [1])


def done_deed(live, name, handed):
    """Do a deed by its name: what is told."""
    return rest_live(live, *handed) if name == "rest" else getattr(live, name)(*handed)


def net_for(chance, sort):
    """A lively net that a way of keeping takes."""
    return lively_net(chance, sorts=("row",) if sort == "marks" else ("row", "heap"))


class DrawnDeedsTest(unittest.TestCase):
    def play(self, sort, seed, many):
        chance = random.Random(seed)
        net = net_for(chance, sort)
        live, player = SORTS[sort](net), Player(sort, net)
        sure, shown = live.sure(), [[] for machine in net.machines()]
        for turn in range(many):
            name, handed = drawn_deed(chance, player)
            self.do(live, player, name, handed)
            self.compare(live, player)
            # Neither the sure line nor a word that was shown is ever taken back.
            self.assertTrue(all(low <= high for low, high in zip(sure, live.sure())))
            now = [shown_words(live, m) for m in machines_of(live)]
            self.assertEqual(now, [player.shown(m) for m in machines_of(live)])
            self.assertEqual([words[:len(before)] for before, words in zip(shown, now)], shown)
            sure, shown = live.sure(), now
        return player

    def do(self, live, player, name, handed):
        before, run = told_live(live) if handed == [[]] else None, live.run()
        handed_before = copied(handed)
        reached = [live.points(m) if name == "stop" and m in handed[0] else live.reach(m) for m in machines_of(live)]
        told = done_deed(live, name, handed)
        self.assertEqual(handed, handed_before)
        if name == "stop":
            cut, falls = told
            self.assertEqual([type(told), type(cut), type(falls)], [tuple, tuple, list])
            self.assertEqual(fallen(run, reached, [counts[-1] for counts in reached], falls), cut)
            self.assertEqual(orphans_of(run, cut), [])
            told = cut
            if handed == [[]]:
                self.assertEqual([falls, told_live(live)], [[], before])
        if name == "settle":
            self.assertEqual(told, counts_of(live.run()))
            words = [live.run().words(m) for m in machines_of(live)]
            self.assertEqual([shown_words(live, m) for m in machines_of(live)], words)
        if name == "let_go":
            self.assertEqual(live.let_go(), [[] for m in machines_of(live)])
        self.assertEqual(told, getattr(player, name)(*handed))

    def compare(self, live, player):
        machines, run = machines_of(live), player.run()
        self.assertEqual(live.history(), player.picks)
        self.assertEqual(all_told(live.run()), all_told(run))
        self.assertEqual([live.sure(), told_live(live)], [player.sure(), told_live(live)])
        self.assertEqual([live.points(m) for m in machines], [player.points(m) for m in machines])
        self.assertEqual([live.reach(m) for m in machines], [player.reach(m) for m in machines])
        if player.sort in ("ahead", "passing"):
            self.assertEqual([live.store(m) for m in machines], [player.store(m) for m in machines])
        if player.sort == "numbers":
            self.compare_numbers(live, player, run)
        if player.sort == "marks":
            self.assertEqual([live.marks(), live.in_hand()], [player.marks(), player.hand])
            self.assertEqual(live.done_cuts(), player.done)
            self.check_held_up(live, player, run)
        self.check_played(live)

    def check_held_up(self, live, player, run):
        """A mark holds up the letters behind it, and waits for those ahead of it."""
        for way, ahead in live.marks():
            letters = [number for number, said in run.lying(way)]
            for number in letters:
                if number >= ahead:
                    with self.assertRaises(NotFirst):
                        live.pick(way, number)
            if letters and letters[0] < ahead:
                with self.assertRaises(NotFirst):
                    live.take(way)
        self.assertEqual([live.marks(), live.history()], [player.marks(), player.picks])

    def check_played(self, live):
        """The history, plainly played, leads to where the net stands; each letter was worked on once, or lies there."""
        run, history = live.run(), live.history()
        ways = range(len(run.net().ways()))
        states, words, lying = plainly_played(run.net(), history)
        self.assertEqual(states, [run.state(m) for m in machines_of(live)])
        self.assertEqual(words, [run.words(m) for m in machines_of(live)])
        self.assertEqual(lying, [run.lying(way) for way in ways])
        letters = history + [(way, number) for way in ways for number, said in lying[way]]
        self.assertEqual(sorted(letters), [(way, number) for way in ways for number in range(run.put_many(way))])

    def compare_numbers(self, live, player, run):
        for m in machines_of(live):
            keeps = player.keeps(m)
            self.assertEqual(live.keeps(m), keeps)
            self.assertEqual(live.number_of(m), keeps[-1][1] if keeps else 0)
        for way in range(len(run.net().ways())):
            bears = [player.bears.get((way, number), 0) for number in range(run.put_many(way))]
            self.assertEqual([live.borne(way, number) for number in range(run.put_many(way))], bears)

    def test_drawn_deeds(self):
        for sort in SORTS:
            events = cuts = 0
            for seed in range(20):
                with self.subTest(sort=sort, seed=seed):
                    player = self.play(sort, seed, 80 if sort == "marks" else 40)
                    events += len(player.picks)
                    # Cuts that were done by marks, not by settling alone.
                    cuts += len([counts for counts, lists in player.done if any(lists)])
            self.assertGreater(events, 100)
            self.assertTrue(sort != "marks" or cuts > 20)

    def test_long(self):
        for sort in SORTS:
            live = picked(SORTS[sort](crossing_run(0).net()), crossing_run(60).schedule())
            live.settle()
            picked(live, crossing_run(100).schedule()[120:])
            self.assertEqual(len(live.run().schedule()), 200)
            line = (100, 100) if sort == "ahead" else (60, 60)
            self.assertEqual([live.sure(), live.stop([1, 0])[0]], [line, line])
            self.assertEqual(live.history(), crossing_run(line[0]).schedule())
            self.assertEqual(all_told(live.run()), all_told(crossing_run(line[0])))


class RefusedTest(unittest.TestCase):
    def test_what_is_refused_changes_nothing(self):
        for sort in SORTS:
            live = SORTS[sort](two_counters())
            picked(live, [(1, 0), (0, 0)])
            live.settle()
            picked(live, [(1, 1), (0, 1)])
            before = told_live(live)
            for way, number in [(1, 0), (1, 3), (0, 3), (2, 0), (-1, 0), (0, -1), (BIG, BIG)]:
                with self.subTest((sort, way, number)), self.assertRaises(NetError) as told:
                    live.pick(way, number)
                self.assertEqual(told.exception.at, 0)
                self.assertEqual(told_live(live), before)
            for stopped in ([2], [0, 2], [-1], [0, 0], [True], ["0"], [None], [[0]], [BIG], [0, 1, 0], [{}]):
                with self.subTest((sort, stopped)), self.assertRaises(NoMachine):
                    live.stop(stopped)
                self.assertEqual(told_live(live), before)
            for ask in ("points", "reach", "keep", "write", "store", "keeps", "number_of", "mark"):
                for m in (2, -1, BIG, -BIG):
                    if hasattr(live, ask):
                        with self.subTest((sort, ask, m)), self.assertRaises(NoMachine):
                            getattr(live, ask)(m)
            self.assertEqual(told_live(live), before)


class LetGoTest(unittest.TestCase):
    def test_no_stop_leads_to_another_line_for_it(self):
        for sort in SORTS:
            went = 0
            for seed in range(30):
                went += self.play(sort, seed)
            self.assertGreater(went, 20)

    def play(self, sort, seed):
        """The same deeds with letting go and without: how many points went."""
        chance = random.Random(seed)
        net = net_for(chance, sort)
        live, other, player = SORTS[sort](net), SORTS[sort](net), Player(sort, net)
        went = 0
        for turn in range(50):
            name, handed = drawn_deed(chance, player)
            if name == "let_go":
                gone = live.let_go()
                self.check_gone(live, other, gone)
                went += sum(len(counts) for counts in gone)
            else:
                told = done_deed(other, name, handed)
                getattr(player, name)(*handed)
                self.assertEqual(done_deed(live, name, handed), told)
            self.assertEqual([live.history(), live.sure()], [other.history(), other.sure()])
            if sort == "numbers":
                self.assertEqual([live.number_of(m) for m in machines_of(live)],
                                 [other.number_of(m) for m in machines_of(live)])
            if sort == "marks":
                self.assertEqual(live.done_cuts(), other.done_cuts())
        return went

    def check_gone(self, live, other, gone):
        """What went and what is there still are, in all, among what is there where nothing was let go."""
        self.assertEqual([type(gone)] + [type(counts) for counts in gone], [list] * (len(gone) + 1))
        for m in machines_of(live):
            points = live.points(m)
            self.assertEqual(points, other.points(m)[-len(points):])
            self.assertEqual(gone[m], sorted(set(gone[m])))
            self.assertEqual([c for c in gone[m] if c not in other.points(m) or c >= points[0]], [])


class WithoutStopsTest(unittest.TestCase):
    def test_settled_all_stand_alike_and_show_the_same_words(self):
        for seed in range(20):
            chance = random.Random(seed)
            run = Run(net_for(chance, "marks" if seed % 2 else "all but marks"))
            nets = [SORTS[sort](run.net()) for sort in SORTS if sort != "marks" or seed % 2]
            for turn in range(30):
                picks = picks_that_may_be(run)
                if picks:
                    pick = chance.choice(picks)
                    run.pick(*pick)
                    for live in nets:
                        live.pick(*pick)
                live = chance.choice(nets)
                m = chance.choice(machines_of(live))
                chance.choice([live.let_go, live.settle] if isinstance(live, Marked) else [lambda: live.keep(m)])()
            for live in nets:
                self.assertEqual(live.settle(), counts_of(run))
                self.assertEqual([live.sure(), live.settle()], [counts_of(run)] * 2)
                self.assertEqual(all_told(live.run()), all_told(run))
                machines = machines_of(live)
                self.assertEqual([shown_words(live, m) for m in machines], [run.words(m) for m in machines])


class NothingKeptTest(unittest.TestCase):
    def test_lists_told_may_be_changed(self):
        for sort in SORTS:
            live = SORTS[sort](two_counters())
            picked(live, [(1, 0), (0, 0)])
            live.settle()
            picked(live, [(1, 1)])
            before = told_live(live)
            for told in (live.points(0), live.reach(0), live.history(), live.stop([])[1], live.run().lying(0)):
                told.append("more")
                told.reverse()
            self.assertEqual(told_live(live), before)
            for told in (live.stop([0])[1], live.let_go(), live.let_go()[0]):
                told.append([9])
                told.reverse()
            self.assertEqual(live.let_go(), [[], []])

    def test_two_live_nets_of_one_net(self):
        for sort in SORTS:
            net = two_counters()
            one, other = SORTS[sort](net), SORTS[sort](net)
            before = told_live(other)
            picked(one, [(1, 0), (0, 0)])
            one.settle()
            one.let_go()
            one.stop([0])
            self.assertEqual(told_live(other), before)
            with self.assertRaises(NoLetter):
                other.pick(0, 1)


if __name__ == "__main__":
    unittest.main()
