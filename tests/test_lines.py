"""[16] points, lines and falls."""

import random
import unittest

from cutrestore.cuts import orphans_of
from cutrestore.errors import NoCount, NoLine
from cutrestore.lines import latest_line
from cutrestore.nets import Net
from cutrestore.runs import Run, played_run
from things import WRONG_POINTS, all_lines, all_told, copied, counter, counts_of, crossing_run, fallen, greatest_of
from things import lively_run, random_points, random_run, to_and_fro, two_counters


class LineTest(unittest.TestCase):
    def test_the_greatest_points_are_a_line(self):
        run = to_and_fro(4)
        self.assertEqual(latest_line(run, [[0, 4], [0, 4]]), ((4, 4), []))
        self.assertEqual(latest_line(run, [[3], [2]]), ((3, 2), []))
        self.assertEqual(latest_line(run, [[0, 1, 2], [0, 1, 2]]), ((2, 2), []))
        self.assertEqual(latest_line(run, [[0], [0]]), ((0, 0), []))
        self.assertEqual(latest_line(Run(two_counters()), [[0], [0]]), ((0, 0), []))

    def test_kinds(self):
        told = latest_line(to_and_fro(4), [[0, 4], [0, 1]])
        self.assertEqual([type(told), type(told[0]), type(told[1])], [tuple, tuple, list])
        self.assertEqual([type(told[1][0]), type(told[1][0][3])], [tuple, tuple])

    def test_one_fall(self):
        self.assertEqual(latest_line(to_and_fro(4), [[0, 1, 4], [0, 1]]), ((1, 1), [(0, 4, 1, (1, 2))]))

    def test_falls_one_behind_another(self):
        run = to_and_fro(4)
        points = [[0, 2, 3], [0, 1, 4]]
        cut, falls = latest_line(run, points)
        self.assertEqual(cut, (2, 1))
        self.assertEqual(fallen(run, points, (3, 4), falls), cut)
        self.assertEqual([fall[:3] for fall in falls], [(1, 4, 1), (0, 3, 2)])

    def test_low_is_just_ahead_of_the_event(self):
        # Machine 1 has points at 2 and 3; the orphan was worked on by its event 3.
        run = to_and_fro(3)
        self.assertEqual(latest_line(run, [[0, 2], [0, 2, 3]]), ((2, 2), [(1, 3, 2, (0, 2))]))

    def test_all_the_way_to_the_beginning(self):
        cut, falls = latest_line(to_and_fro(6), [[0, 2, 5], [0, 3, 6]])
        self.assertEqual(cut, (0, 0))
        self.assertEqual([fall[:3] for fall in falls], [(1, 6, 3), (0, 5, 2), (1, 3, 0), (0, 2, 0)])

    def test_points_without_nought(self):
        self.assertEqual(latest_line(to_and_fro(4), [[2, 4], [2, 3]])[0], (4, 3))
        self.assertEqual(latest_line(to_and_fro(4), [[2, 4], [1, 2]])[0], (2, 2))

    def test_one_machine(self):
        run = played_run(Net([counter()], [(0, 0, "row")], [(0, 1)]), [(0, 0), (0, 1), (0, 2)])
        self.assertEqual(latest_line(run, [[0, 2]]), ((2,), []))
        self.assertEqual(latest_line(run, [[1]]), ((1,), []))


class NoLineTest(unittest.TestCase):
    def refused(self, run, points):
        with self.assertRaises(NoLine) as told:
            latest_line(run, points)
        falls, letter = told.exception.falls, told.exception.letter
        self.assertEqual([type(falls), type(letter)], [list, tuple])
        cut = fallen(run, points, [counts[-1] for counts in points], falls)
        self.assertIn(letter, orphans_of(run, cut))
        m, c = run.worked_by(*letter)
        self.assertEqual([point for point in points[m] if point < c], [])
        return falls, letter

    def test_without_falls(self):
        self.assertEqual(self.refused(to_and_fro(4), [[4], [2]]), ([], (1, 3)))
        self.assertEqual(self.refused(to_and_fro(4), [[0, 2], [3, 4]]), ([], (0, 2)))

    def test_behind_falls(self):
        falls, letter = self.refused(to_and_fro(6), [[2, 5], [3, 6]])
        self.assertEqual([fall[:3] for fall in falls], [(1, 6, 3), (0, 5, 2)])
        self.assertEqual(letter, (0, 2))

    def test_the_point_at_the_event_is_not_ahead_of_it(self):
        self.assertEqual(self.refused(to_and_fro(2), [[0], [1]]), ([], (0, 0)))
        self.assertEqual(latest_line(to_and_fro(2), [[0], [0, 1]])[0], (0, 0))


class ManyPointsTest(unittest.TestCase):
    def check(self, run, points):
        """Whether there was a line."""
        lines = all_lines(run, points)
        start = tuple(counts[-1] for counts in points)
        try:
            cut, falls = latest_line(run, points)
        except NoLine as why:
            self.assertEqual(lines, [])
            cut = fallen(run, points, start, why.falls)
            m, c = run.worked_by(*why.letter)
            self.assertIn(why.letter, orphans_of(run, cut))
            self.assertGreaterEqual(points[m][0], c)
            return False
        self.assertIn(cut, lines)
        self.assertEqual(cut, greatest_of(lines))
        self.assertEqual(fallen(run, points, start, falls), cut)
        self.assertEqual(orphans_of(run, cut), [])
        return True

    def test_each_line_is_no_greater(self):
        told = []
        for seed in range(300):
            chance = random.Random(seed)
            run = lively_run(chance, chance.randrange(25), 3, 2) if seed < 270 else random_run(chance, 12)
            told.append(self.check(run, random_points(chance, run)))
        self.assertGreater(told.count(True), 20)
        self.assertGreater(told.count(False), 20)

    def test_long_runs(self):
        for many in (1, 60):
            run = crossing_run(many)
            points = [list(range(many + 1)), list(range(many + 1))]
            self.assertEqual(latest_line(run, points), ((many, many), []))
            points[0] = [0]
            cut, falls = latest_line(run, points)
            self.assertEqual(cut, (0, 1))
            self.assertEqual(fallen(run, points, (0, many), falls), cut)
        run = lively_run(random.Random(5), 200)
        points = [list(range(0, count + 1, 2)) for count in counts_of(run)]
        cut, falls = latest_line(run, points)
        self.assertEqual(fallen(run, points, [counts[-1] for counts in points], falls), cut)
        self.assertEqual(orphans_of(run, cut), [])


class NoCountTest(unittest.TestCase):
    def test_what_are_no_points(self):
        run = to_and_fro(3)
        latest_line(run, [[0, 1, 2, 3], [0, 1, 2, 3]])
        for points in WRONG_POINTS:
            before = copied(points)
            with self.subTest(points), self.assertRaises(NoCount):
                latest_line(run, points)
            self.assertEqual(points, before)

    def test_a_run_without_events(self):
        for points in [[], [[0]], [[0], [1]], [[0, 1], [0]], [[0], []]]:
            with self.subTest(points), self.assertRaises(NoCount):
                latest_line(Run(two_counters()), points)


class NothingChangedTest(unittest.TestCase):
    def test_what_is_handed_in_stays(self):
        run = to_and_fro(6)
        for points in ([[0, 2, 5], [0, 3, 6]], [[2, 5], [3, 6]], [[6], [6]]):
            before = copied([all_told(run), points])
            try:
                latest_line(run, points)
            except NoLine:
                pass
            self.assertEqual([all_told(run), points], before)

    def test_lists_told_may_be_changed(self):
        run = to_and_fro(6)
        points = [[0, 2, 5], [0, 3, 6]]
        cut, falls = latest_line(run, points)
        again = copied(falls)
        falls.clear()
        self.assertEqual(latest_line(run, points), (cut, again))
        points[0].clear()
        self.assertEqual(again[0][:3], (1, 6, 3))
        with self.assertRaises(NoLine) as told:
            latest_line(run, [[2, 5], [3, 6]])
        falls = told.exception.falls
        again = copied(falls)
        falls.append("more")
        with self.assertRaises(NoLine) as told:
            latest_line(run, [[2, 5], [3, 6]])
        self.assertEqual(told.exception.falls, again)


if __name__ == "__main__":
    unittest.main()
