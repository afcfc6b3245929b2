"""[12] who heard what."""

import random
import unittest

from cutrestore.errors import NoEvent
from cutrestore.hearsay import heard_of, word_of
from cutrestore.nets import Net
from cutrestore.runs import Run, played_run
from things import BIG, all_told, copied, counter, crossing_run, events_ahead, events_of, lively_run, random_run
from things import two_counters

BACK = {"same": "same", "ahead": "behind", "behind": "ahead", "beside": "beside"}


def three_in_a_ring():
    """A letter goes round three machines; another first letter comes to the last one at the end."""
    ways = [(0, 1, "row"), (1, 2, "row"), (2, 0, "row"), (0, 2, "heap")]
    net = Net([counter(), counter(), counter()], ways, [(2, 1), (3, 5), (1, 2)])
    return played_run(net, [(2, 0), (0, 0), (1, 0), (1, 1), (3, 0), (2, 1)])


class HeardTest(unittest.TestCase):
    def heard(self, run):
        return [heard_of(run, m, c) for m, c in events_of(run)]

    def test_two_counters(self):
        run = played_run(two_counters(), [(1, 0), (0, 0), (1, 1), (0, 1)])
        self.assertEqual(self.heard(run), [(1, 0), (0, 1), (2, 0), (1, 2)])

    def test_a_tuple_with_one_number_for_each_machine(self):
        run = three_in_a_ring()
        self.assertIsInstance(heard_of(run, 2, 1), tuple)
        self.assertEqual(len(heard_of(run, 2, 1)), 3)

    def test_round_a_ring(self):
        run = three_in_a_ring()
        heard = [(1, 0, 0), (1, 1, 0), (0, 0, 1), (1, 1, 2), (1, 1, 3), (2, 0, 1)]
        self.assertEqual(self.heard(run), heard)

    def test_first_letters_bring_nothing(self):
        net = Net([counter(7, 0, 0), counter(7, 0, 0)], [(0, 1, "heap"), (1, 0, "row")], [(0, 1), (0, 2), (1, 3)])
        run = played_run(net, [(0, 1), (1, 0), (0, 0)])
        self.assertEqual(self.heard(run), [(0, 1), (1, 0), (0, 2)])

    def test_a_machine_that_sends_to_itself(self):
        run = Run(Net([counter(7), counter(7)], [(0, 0, "heap"), (1, 1, "row")], [(0, 1), (0, 2), (1, 1)]))
        for pick in [(0, 1), (1, 0), (0, 2), (1, 1), (0, 0)]:
            run.pick(*pick)
        self.assertEqual(self.heard(run), [(1, 0), (0, 1), (2, 0), (0, 2), (3, 0)])

    def test_what_the_sender_heard_later_is_not_heard(self):
        net = Net([counter(), counter()], [(0, 1, "row"), (1, 0, "row")], [(1, 1), (1, 2), (0, 9)])
        run = played_run(net, [(1, 0), (0, 0), (1, 1), (1, 2), (0, 1)])
        self.assertEqual(heard_of(run, 0, 3), (3, 1))
        self.assertEqual(heard_of(run, 1, 2), (1, 2))

    def test_one_machine(self):
        run = played_run(Net([counter()], [(0, 0, "row")], [(0, 1)]), [(0, 0), (0, 1), (0, 2)])
        self.assertEqual(self.heard(run), [(1,), (2,), (3,)])

    def test_as_the_words_of_the_document_say(self):
        for seed in range(40):
            chance = random.Random(seed)
            run = lively_run(chance, 40) if seed < 30 else random_run(chance, 40)
            many = len(run.net().machines())
            for (m, c), ahead in events_ahead(run).items():
                told = tuple(len([one for one in ahead | {(m, c)} if one[0] == k]) for k in range(many))
                self.assertEqual(heard_of(run, m, c), told)

    def test_each_is_reckoned_once(self):
        run = crossing_run(60)
        self.assertEqual(heard_of(run, 0, 60), (60, 59))
        self.assertEqual(heard_of(run, 1, 60), (59, 60))
        self.assertEqual(heard_of(run, 1, 1), (0, 1))

    def test_a_long_chain(self):
        run = Run(Net([counter()], [(0, 0, "row")], [(0, 1)]))
        for number in range(200):
            run.pick(0, number)
        self.assertEqual(heard_of(run, 0, 200), (200,))

    def test_a_run_that_went_on(self):
        run = played_run(two_counters(), [(1, 0)])
        self.assertEqual(heard_of(run, 0, 1), (1, 0))
        with self.assertRaises(NoEvent):
            heard_of(run, 1, 1)
        run.pick(0, 0)
        self.assertEqual(heard_of(run, 1, 1), (0, 1))


class WordTest(unittest.TestCase):
    def both_ways(self, run, event, other, word):
        self.assertEqual(word_of(run, event, other), word)
        self.assertEqual(word_of(run, other, event), BACK[word])

    def test_each_word_both_ways_round(self):
        run = three_in_a_ring()
        self.both_ways(run, (2, 1), (2, 1), "same")
        self.both_ways(run, (0, 1), (0, 2), "ahead")
        self.both_ways(run, (0, 1), (1, 1), "ahead")
        self.both_ways(run, (0, 1), (2, 3), "ahead")
        self.both_ways(run, (2, 1), (0, 2), "ahead")
        self.both_ways(run, (2, 2), (0, 2), "beside")
        self.both_ways(run, (1, 1), (2, 1), "beside")

    def test_equal_tuples_are_the_same_event(self):
        run = played_run(two_counters(), [(1, 0)])
        self.assertEqual(word_of(run, tuple([0, 1]), tuple([0, 1])), "same")

    def test_as_the_words_of_the_document_say(self):
        for seed in range(15):
            run = lively_run(random.Random(seed), 18)
            ahead = events_ahead(run)
            for event in ahead:
                for other in ahead:
                    word = "ahead" if event in ahead[other] else "behind" if other in ahead[event] else "beside"
                    self.assertEqual(word_of(run, event, other), "same" if event == other else word)


class NoEventTest(unittest.TestCase):
    WRONG = [
        (0, 0), (1, 0), (0, -1), (0, 3), (1, 2), (1, 3), (0, BIG), (0, -BIG), (1, BIG), (2, 1), (-1, 1), (-2, 1),
        (5, 1), (BIG, 1), (-BIG, 1), (BIG, BIG), (-1, 0), (2, 0), (-1, -1), (10 ** 60 - 1, 1), (0, 1 - 10 ** 60),
    ]

    def setUp(self):
        self.run_told = played_run(two_counters(), [(1, 0), (0, 0), (1, 1)])

    def test_heard_of(self):
        for m, c in self.WRONG:
            with self.subTest((m, c)), self.assertRaises(NoEvent):
                heard_of(self.run_told, m, c)

    def test_word_of_the_one_the_other_and_both(self):
        for wrong in self.WRONG:
            for event, other in [(wrong, (0, 1)), ((0, 1), wrong), (wrong, wrong), (wrong, (9, 9))]:
                with self.subTest((event, other)), self.assertRaises(NoEvent):
                    word_of(self.run_told, event, other)

    def test_a_run_without_events(self):
        run = Run(two_counters())
        for m in (0, 1):
            for c in (0, 1):
                with self.assertRaises(NoEvent):
                    heard_of(run, m, c)
        with self.assertRaises(NoEvent):
            word_of(run, (0, 0), (0, 0))


class NothingChangedTest(unittest.TestCase):
    def test_the_run_stays(self):
        run = three_in_a_ring()
        before = copied(all_told(run))
        told = [heard_of(run, 2, 3), word_of(run, (0, 1), (2, 3))]
        self.assertEqual(all_told(run), before)
        self.assertEqual([heard_of(run, 2, 3), word_of(run, (0, 1), (2, 3))], told)
        self.assertEqual(run.pick(0, 1), (1, 2))


if __name__ == "__main__":
    unittest.main()
