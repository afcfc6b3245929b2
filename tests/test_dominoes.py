"""[17] the domino."""

import itertools
import unittest

from cutrestore.bars import orphan_of
from cutrestore.dominoes import domino_of
from cutrestore.lines import latest_line
from cutrestore.nets import Net
from cutrestore.runs import played_run
from things import all_lines, counts_of, fallen


class DominoTest(unittest.TestCase):
    def test_each(self):
        for k in range(1, 21):
            told = domino_of(k)
            net, schedule, points = told
            self.assertEqual([type(told), type(schedule), type(points)], [tuple, list, list])
            self.assertIsInstance(net, Net)
            self.assertEqual(len(net.machines()), 2)
            self.assertLessEqual(len(schedule), 120)
            self.assertTrue(all(type(pick) is tuple for pick in schedule))
            run = played_run(net, schedule)
            self.assertGreaterEqual(min(counts_of(run)), k)
            self.assertEqual([type(counts) for counts in points], [list, list])
            self.assertEqual([len(counts) for counts in points], [k + 1, k + 1])
            cut, falls = latest_line(run, points)
            self.assertEqual(cut, (0, 0))
            self.assertEqual(fallen(run, points, [counts[-1] for counts in points], falls), (0, 0))

    def test_no_other_choice_is_a_line(self):
        for k in (1, 2, 7, 20):
            net, schedule, points = domino_of(k)
            run = played_run(net, schedule)
            self.assertEqual(all_lines(run, points), [(0, 0)])
            for choice in itertools.product(*points):
                self.assertEqual(orphan_of(run, points, choice) is None, choice == (0, 0))

    def test_lists_told_may_be_changed(self):
        net, schedule, points = domino_of(2)
        again = domino_of(2)
        self.assertEqual([again[1], again[2]], [schedule, points])
        points[0].clear()
        points.clear()
        schedule.clear()
        net, schedule, points = domino_of(2)
        self.assertEqual([schedule, points], [again[1], again[2]])


if __name__ == "__main__":
    unittest.main()
