"""[17] choices, and lines through a point."""

import itertools
import random
import unittest

from cutrestore.bars import line_through, orphan_of
from cutrestore.cuts import orphans_of
from cutrestore.errors import NoCount, NoLine
from cutrestore.lines import latest_line
from things import BIG, WRONG_POINTS, all_lines, all_told, copied, fallen, greatest_of, lively_run, random_points
from things import to_and_fro


class OrphanTest(unittest.TestCase):
    def test_none_of_a_line(self):
        run = to_and_fro(3)
        self.assertIsNone(orphan_of(run, [[0, 3], [0, 3]], (3, 3)))
        self.assertIsNone(orphan_of(run, [[0, 3], [0, 2]], (3, 2)))
        self.assertIsNone(orphan_of(run, [[0, 3], [0, 2]], (0, 0)))

    def test_the_least(self):
        run = to_and_fro(3)
        points = [[0, 1, 2, 3], [0, 1, 2, 3]]
        self.assertEqual(orphan_of(run, points, (0, 3)), (0, 0))
        self.assertEqual(orphan_of(run, points, (1, 3)), (0, 1))
        self.assertEqual(orphan_of(run, points, (3, 0)), (1, 1))
        self.assertIsInstance(orphan_of(run, points, (3, 0)), tuple)

    def test_of_all_choices(self):
        for seed in range(30):
            chance = random.Random(seed)
            run = lively_run(chance, 12, 3)
            points = random_points(chance, run)
            for choice in itertools.islice(itertools.product(*points), 60):
                orphans = orphans_of(run, choice)
                self.assertEqual(orphan_of(run, points, choice), orphans[0] if orphans else None)

    def test_what_is_greater_than_the_latest_line_has_one(self):
        run = to_and_fro(6)
        points = [[0, 2, 5], [0, 3, 6]]
        for choice in itertools.product(*points):
            self.assertEqual(orphan_of(run, points, choice) is None, choice == (0, 0))

    def test_what_is_no_choice(self):
        run, points = to_and_fro(3), [[0, 2], [0, 1, 3]]
        wrong = [(), (0,), (0, 0, 0), (1, 0), (3, 0), (0, 2), (-1, 0), (0, -1), (4, 0), (0, 4), (BIG, 0), (0, -BIG),
                 (2, 3, 0), (1, 2), (-2, 3)]
        for choice in wrong:
            with self.subTest(choice), self.assertRaises(NoCount):
                orphan_of(run, points, choice)

    def test_what_are_no_points(self):
        for points in WRONG_POINTS:
            with self.subTest(points), self.assertRaises(NoCount):
                orphan_of(to_and_fro(3), points, (0, 0))


class ThroughTest(unittest.TestCase):
    def test_a_line(self):
        run = to_and_fro(4)
        points = [[0, 1, 3], [0, 2, 4]]
        self.assertEqual(line_through(run, points, 0, 3), ("line", (3, 2)))
        self.assertEqual(line_through(run, points, 1, 2), ("line", (3, 2)))
        self.assertEqual(line_through(run, points, 0, 1), ("line", (1, 0)))
        self.assertEqual(line_through(run, points, 1, 0), ("line", (1, 0)))
        self.assertEqual(line_through(run, points, 0, 0), ("line", (0, 0)))

    def test_barred_by_itself(self):
        run = to_and_fro(4)
        told = line_through(run, [[0, 1, 3], [0, 2, 4]], 1, 4)
        self.assertEqual(told, ("barred", [], (0, 3)))
        self.assertEqual([type(told), type(told[1]), type(told[2])], [tuple, list, tuple])

    def test_barred_behind_falls(self):
        run = to_and_fro(6)
        points = [[0, 2, 5], [0, 3, 6]]
        self.assertEqual(line_through(run, points, 0, 5), ("barred", [(1, 6, 3, (0, 5))], (1, 4)))
        self.assertEqual(line_through(run, points, 1, 3), ("barred", [(0, 5, 2, (1, 4))], (0, 2)))
        self.assertEqual(line_through(run, points, 0, 0), ("line", (0, 0)))

    def test_barred_by_a_machine_without_a_point(self):
        run = to_and_fro(4)
        self.assertEqual(line_through(run, [[0, 1], [2, 4]], 0, 0), ("barred", [], (0, 0)))
        self.assertEqual(line_through(run, [[0, 1], [2, 4]], 0, 1), ("barred", [], (0, 1)))

    def test_of_all_points(self):
        words = []
        for seed in range(80):
            chance = random.Random(seed)
            run = lively_run(chance, chance.randrange(5, 20), 3, 2)
            points = random_points(chance, run)
            for m, counts in enumerate(points):
                words += [self.check(run, points, m, c) for c in counts]
        self.assertGreater(words.count("line"), 100)
        self.assertGreater(words.count("barred"), 100)

    def check(self, run, points, m, c):
        lines = [line for line in all_lines(run, points) if line[m] == c]
        told = line_through(run, points, m, c)
        self.assertEqual(told[0], "line" if lines else "barred")
        if lines:
            self.assertEqual(told, ("line", greatest_of(lines)))
            return told[0]
        word, falls, letter = told
        start = [c if machine == m else counts[-1] for machine, counts in enumerate(points)]
        cut = fallen(run, points, start, falls)
        self.assertEqual(cut[m], c)
        self.assertIn(letter, orphans_of(run, cut))
        worker, event = run.worked_by(*letter)
        self.assertTrue(worker == m or points[worker][0] >= event)
        return word

    def test_through_the_greatest_points_as_the_latest_line(self):
        for seed in range(30):
            chance = random.Random(seed)
            run = lively_run(chance, 12, 3)
            points = random_points(chance, run)
            try:
                cut = latest_line(run, points)[0]
            except NoLine:
                continue
            for m, c in enumerate(cut):
                self.assertEqual(line_through(run, points, m, c), ("line", cut))

    def test_what_is_no_point(self):
        run, points = to_and_fro(3), [[0, 2], [0, 1, 3]]
        for m, c in [(0, 1), (0, 3), (1, 2), (0, -1), (1, 4), (0, BIG), (1, -BIG), (2, 0), (-1, 0), (-2, 0), (-1, 3),
                     (BIG, 0), (-BIG, 0), (5, 5)]:
            with self.subTest((m, c)), self.assertRaises(NoCount):
                line_through(run, points, m, c)

    def test_what_are_no_points(self):
        for points in WRONG_POINTS:
            for m, c in [(0, 0), (1, 0), (9, 9)]:
                with self.subTest((points, m, c)), self.assertRaises(NoCount):
                    line_through(to_and_fro(3), points, m, c)


class NothingChangedTest(unittest.TestCase):
    def test_what_is_handed_in_stays_and_lists_may_be_changed(self):
        run = to_and_fro(6)
        points = [[0, 2, 5], [0, 3, 6]]
        before = copied([all_told(run), points])
        told = line_through(run, points, 0, 5)
        told[1].append("more")
        self.assertEqual(line_through(run, points, 0, 5), ("barred", [(1, 6, 3, (0, 5))], (1, 4)))
        line_through(run, points, 0, 0)
        orphan_of(run, points, (5, 6))
        self.assertEqual([all_told(run), points], before)


if __name__ == "__main__":
    unittest.main()
