"""Point [24]: shapes one after another, in the order of their heights."""

import inspect
import random
import unittest
from itertools import product

from samples import (
    HUGE,
    ErrorChecks,
    allowed,
    drawn_trials,
    is_shape,
    large_site,
    misreads_of,
    missed,
    reached,
    shapes_of,
    small_site,
    time_limit,
    trials_about,
    wide_site,
)

from rungbounds.errors import BadNumber, NoPlace
from rungbounds.listing import fitting, next_shape
from rungbounds.misread import fewest_misread
from rungbounds.sites import Site

WALLS = [("a", 3, 2, (1,)), ("b", 4, 9, ())]
LINKS = [(1, 2, 0, 3)]


def first_above(left, heights):
    """Return the first of the ascending shapes that is greater, or None."""
    return next((shape for shape in left if shape > heights), None)


def drawn_sites(seed, count):
    """Draw sites with trials, and for several allowances the shapes that are left."""
    draw = random.Random(seed)
    for at in range(count):
        walls, links, shapes = wide_site(draw, at % 2) if at % 5 == 0 else small_site(draw, 4, 4, at % 4)
        trials = drawn_trials(draw, len(shapes[0]), draw.randint(0, 6), 5)
        for misreads in (0, 1, 2, 6):
            yield draw, Site(walls, links), shapes, trials, misreads, allowed(shapes, trials, misreads)


class NextShapeTest(ErrorChecks):
    def test_listings_are_ascending(self):
        # What all other tests compare with.
        for _, _, shapes, _, _, left in drawn_sites(301, 20):
            self.assertEqual(shapes, sorted(shapes))
            self.assertEqual(left, sorted(left))

    def test_from_none_and_from_each_shape(self):
        counts = []
        for draw, site, shapes, trials, misreads, left in drawn_sites(307, 100):
            first = next_shape(site, trials, misreads=misreads)
            self.assertEqual(first, left[0] if left else None)
            self.assertEqual(next_shape(site, tuple(trials), None, misreads=misreads), first)
            for heights in shapes if len(shapes) < 40 else draw.sample(shapes, 40):
                self.assertEqual(next_shape(site, trials, heights, misreads=misreads), first_above(left, heights))
            if left:
                self.assertIs(first.__class__, list)
                self.assertIsNone(next_shape(site, trials, left[-1], misreads=misreads))
            counts.append(len(left))
        self.assertGreater(counts.count(0), 30)
        self.assertGreater(sum(count > 20 for count in counts), 30)

    def test_from_lists_that_are_no_shape(self):
        for draw, site, _, trials, misreads, left in drawn_sites(311, 100):
            for _ in range(30):
                heights = [draw.randint(-2, 7) for _ in range(site.size)]
                self.assertEqual(next_shape(site, trials, heights, misreads=misreads), first_above(left, heights))

    def test_from_every_list(self):
        site, shapes = Site(WALLS, LINKS), shapes_of(WALLS, LINKS)
        for trials in ([], [missed(1, 0), reached(2, 2), reached(0, 1), missed(2, 3)]):
            for misreads in (0, 1, 2):
                left = allowed(shapes, trials, misreads)
                for row in product(range(-2, 6), repeat=3):
                    heights = list(row)
                    self.assertEqual(next_shape(site, trials, heights, misreads=misreads), first_above(left, heights))

    def test_each_kind_of_list_by_hand(self):
        site = Site([("a", 5, 2, (1,)), ("b", 5, 0, ())])
        trials = [reached(0, 3), missed(0, 1)]
        self.assertEqual(next_shape(site, trials), [2, 0, 0])
        self.assertEqual(next_shape(site, trials, [2, 0, 0]), [2, 0, 1])
        self.assertEqual(next_shape(site, trials, [2, 0, 5]), [2, 1, 0])
        self.assertEqual(next_shape(site, trials, [2, 4, 5]), [3, 1, 0])
        self.assertIsNone(next_shape(site, trials, [3, 5, 5]))
        # Below 0, above the top, over a told limit, and too many misread.
        self.assertEqual(next_shape(site, trials, [-7, 9, 9]), [2, 0, 0])
        self.assertEqual(next_shape(site, trials, [2, -1, 9]), [2, 0, 0])
        self.assertEqual(next_shape(site, trials, [2, 3, -HUGE]), [2, 3, 0])
        self.assertEqual(next_shape(site, trials, [2, 9, 0]), [3, 1, 0])
        self.assertEqual(next_shape(site, trials, [2, 2, 6]), [2, 3, 0])
        self.assertEqual(next_shape(site, trials, [3, 0, 4]), [3, 1, 0])
        self.assertEqual(next_shape(site, trials, [0, 2, 5]), [2, 0, 0])
        self.assertEqual(next_shape(site, trials, [0, 2, 5], misreads=1), [1, 0, 0])
        self.assertIsNone(next_shape(site, trials, [4, 4, 4]))
        self.assertEqual(next_shape(site, trials, [4, 4, 4], misreads=1), [4, 4, 5])
        self.assertIsNone(next_shape(site, trials, [HUGE, -HUGE, 0], misreads=2))
        self.assertIsNone(next_shape(site, trials, [5, 5, 5], misreads=2))

    def test_gap_that_no_shape_has(self):
        site = Site.plain(2, 20, 30)
        trials = [reached(0, 4), missed(0, 11)]
        self.assertIsNone(next_shape(site, trials))
        self.assertEqual(next_shape(site, trials, [4, 20], misreads=1), [12, 0])
        self.assertEqual(next_shape(site, trials, [7, 3], misreads=1), [12, 0])

    def test_no_shape_at_all(self):
        site = Site(WALLS, LINKS)
        for trials in ([reached(0, -1)], [missed(2, 4)], [reached(1, 1), missed(1, 1)], [missed(0, 2), reached(2, 0)]):
            for heights in (None, [0, 0, 0], [-1, -1, -1], [9, 9, 9]):
                self.assertIsNone(next_shape(site, trials, heights))
                self.assertIsNone(next_shape(site, trials * 2, heights, misreads=1))
            self.assertEqual(next_shape(site, trials, misreads=1).__class__, list)

    def test_site_without_walls(self):
        site = Site([])
        for misreads in (0, 3):
            self.assertEqual(next_shape(site, [], misreads=misreads), [])
            self.assertEqual(next_shape(site, (), None, misreads=misreads), [])
            self.assertIsNone(next_shape(site, [], [], misreads=misreads))

    def test_names_of_arguments(self):
        site = Site(WALLS, LINKS)
        found = next_shape(misreads=1, heights=[1, 1, 1], trials=[reached(2, 0), reached(0, 1)], site=site)
        self.assertEqual(found, [1, 1, 2])
        self.assertEqual(next_shape(heights=None, trials=(), site=site), [0, 0, 0])
        with self.assertRaises(TypeError):
            next_shape(site, [], None, 0)

    def test_nothing_is_changed(self):
        site, trials, heights = Site(WALLS, LINKS), [missed(0, 0)], [1, 1, 1]
        first = next_shape(site, trials, heights)
        self.assertIsNot(first, heights)
        first.clear()
        self.assertEqual(([str(trial) for trial in trials], heights), (["0 0 missed"], [1, 1, 1]))
        self.assertEqual(next_shape(site, trials, heights), [1, 1, 2])


class FittingTest(ErrorChecks):
    def test_against_a_listing(self):
        for at, (draw, site, _, trials, misreads, left) in enumerate(drawn_sites(313, 100)):
            given = trials if at % 2 else tuple(trials)
            found = list(fitting(site, given, misreads=misreads, most=2000))
            self.assertEqual(found, left)
            self.assertTrue(all(heights.__class__ is list for heights in found))
            self.assertEqual(list(fitting(site, given, misreads=misreads)), left[:20])
            most = draw.randint(0, len(left) + 2)
            self.assertEqual(list(fitting(site, given, misreads=misreads, most=most)), left[:most])

    def test_most(self):
        site = Site.plain(1, 99, 0)
        self.assertEqual(list(fitting(site, [])), [[height] for height in range(20)])
        for most in (0, 1, 19, 20, 21, 99, 100):
            self.assertEqual(list(fitting(site, [], most=most)), [[height] for height in range(most)])
        for most in (101, 1000, 2000, HUGE):
            self.assertEqual(list(fitting(site, [], most=most)), [[height] for height in range(100)])

    def test_is_a_generator(self):
        site = Site.plain(1, 99, 0)
        self.assertTrue(inspect.isgenerator(fitting(site, [])))
        found = fitting(site, [], most=3)
        self.assertEqual([next(found), next(found), next(found)], [[0], [1], [2]])
        with self.assertRaises(StopIteration):
            next(found)

    def test_each_shape_is_a_new_list(self):
        site = Site.plain(2, 2, 9)
        found = []
        for heights in fitting(site, []):
            found.append(list(heights))
            heights.append(7)
            heights[0] = 99
        self.assertEqual(found, [list(row) for row in product(range(3), repeat=2)])
        rows = list(fitting(site, []))
        self.assertEqual(len({id(row) for row in rows}), 9)

    def test_two_at_once(self):
        site = Site.plain(1, 9, 0)
        first, second = fitting(site, [missed(0, 3)]), fitting(site, [reached(0, 5)])
        found = [next(first), next(second), next(first), next(second), next(second), next(first)]
        self.assertEqual(found, [[4], [0], [5], [1], [2], [6]])

    def test_no_shape_at_all(self):
        site = Site(WALLS, LINKS)
        for most in (0, 1, 20):
            self.assertEqual(list(fitting(site, [reached(0, -1)], most=most)), [])
            self.assertEqual(list(fitting(site, [reached(0, -1), missed(1, 9)], misreads=1, most=most)), [])

    def test_site_without_walls(self):
        self.assertEqual(list(fitting(Site([]), [])), [[]])
        self.assertEqual(list(fitting(Site([]), (), misreads=2, most=1)), [[]])
        self.assertEqual(list(fitting(Site([]), [], most=0)), [])

    def test_names_of_arguments(self):
        found = fitting(most=2, misreads=1, trials=[missed(0, 9), missed(0, 6)], site=Site.plain(1, 9, 0))
        self.assertEqual(list(found), [[7], [8]])
        with self.assertRaises(TypeError):
            fitting(Site.plain(1, 9, 0), [], 0)


class OrderTest(ErrorChecks):
    def test_next_shape(self):
        site = Site(WALLS, LINKS)
        for heights in (None, [0, 0, 0], [9, 9, 9]):
            for place in (-HUGE, -2, -1, 3, HUGE):
                for trials in ([reached(place, 2), missed(9, 4)], (reached(0, -1), missed(place, 2))):
                    self.assert_raises(NoPlace, place, next_shape, site, trials, heights)
                    self.assert_raises(NoPlace, place, next_shape, site, trials, heights, misreads=-1)
            for misreads in (-1, -HUGE):
                self.assert_raises(BadNumber, misreads, next_shape, site, [], heights, misreads=misreads)
                self.assert_raises(BadNumber, misreads, next_shape, site, [reached(0, -1)], heights, misreads=misreads)

    def test_fitting(self):
        site = Site(WALLS, LINKS)
        for most in (-1, -HUGE, 0, 5):
            for place in (-HUGE, -1, 3, HUGE):
                for trials in ([reached(place, 2), missed(9, 4)], (reached(0, -1), missed(place, 2))):
                    self.assert_raises(NoPlace, place, next, fitting(site, trials, misreads=-1, most=most))
                    self.assert_raises(NoPlace, place, list, fitting(site, trials, most=most))
            for misreads in (-1, -HUGE):
                self.assert_raises(BadNumber, misreads, next, fitting(site, [], misreads=misreads, most=most))
        for most in (-1, -5, -HUGE):
            for trials in ([], [reached(0, -1)], [missed(2, 1)]):
                self.assert_raises(BadNumber, most, next, fitting(site, trials, most=most))
                self.assert_raises(BadNumber, most, list, fitting(site, trials, misreads=2, most=most))

    def test_errors_come_when_the_iteration_begins(self):
        site = Site(WALLS, LINKS)
        # No error here: nothing is iterated.
        fitting(site, [reached(9, 9)], misreads=-1, most=-1)
        found = fitting(site, [], most=-3)
        self.assert_raises(BadNumber, -3, next, found)


class SizeTest(ErrorChecks):
    """Sites of 24 places and 40 links, 40 trials and heights of 40 digits."""

    def assert_steps(self, walls, links, site, trials, misreads, rows):
        """Check that all rows are shapes in order, and that none is left out between them."""
        for heights in rows:
            self.assertTrue(is_shape(walls, links, heights))
            self.assertLessEqual(len(misreads_of(trials, heights)), misreads)
        for first, second in zip(rows, rows[1:]):
            self.assertLess(first, second)
            at = next(at for at in range(24) if first[at] != second[at])
            self.assert_no_shape_from(site, trials, misreads, first[:at + 1], second[at])
            for place in range(at + 1, 24):
                self.assert_no_shape_from(site, trials, misreads, second[:place] + [-1], second[place])
                self.assert_no_shape_from(site, trials, misreads, first[:place + 1], None)

    def assert_no_shape_from(self, site, trials, misreads, start, end):
        """Check that no shape begins like `start`, but for a last height above its own and below `end`."""
        sure = [trial for at, height in enumerate(start[:-1]) for trial in (reached(at, height), missed(at, height - 1))]
        sure.append(missed(len(start) - 1, start[-1]))
        if end is not None:
            sure.append(reached(len(start) - 1, end - 1))
        fewest = fewest_misread(site, trials, sure=sure)
        self.assertTrue(fewest is None or fewest > misreads)

    def test_drawn_sites(self):
        draw = random.Random(317)
        with time_limit(200):
            for unit, wrong in [(1, 0), (30, 7), (10**38, 5), (10**38, 15)]:
                walls, links, heights = large_site(draw, unit)
                trials, site = trials_about(draw, heights, 40, unit, wrong), Site(walls, links)
                fewest = fewest_misread(site, trials)
                self.assertEqual(list(fitting(site, trials, misreads=fewest - 1)) if fewest else [], [])
                for misreads in (fewest, fewest + 2):
                    rows = list(fitting(site, trials, misreads=misreads, most=8))
                    self.assertEqual(rows[0], next_shape(site, trials, misreads=misreads))
                    self.assert_no_shape_from(site, trials, misreads, [-1], rows[0][0])
                    self.assert_steps(walls, links, site, trials, misreads, rows)
                    for first, second in zip(rows, rows[1:]):
                        self.assertEqual(next_shape(site, trials, first, misreads=misreads), second)
                    if len(misreads_of(trials, heights)) <= misreads:
                        rows = [heights]
                        while len(rows) < 4 and rows[-1] is not None:
                            rows.append(next_shape(site, trials, rows[-1], misreads=misreads))
                        self.assert_steps(walls, links, site, trials, misreads, [row for row in rows if row])

    def test_a_thousand_shapes(self):
        draw = random.Random(331)
        walls, links, heights = large_site(draw, 10**38)
        trials, site = trials_about(draw, heights, 40, 10**38, 8), Site(walls, links)
        fewest = fewest_misread(site, trials)
        with time_limit(60):
            rows = list(fitting(site, trials, misreads=fewest + 1, most=1000))
        self.assertEqual(len(rows), 1000)
        self.assertEqual(rows, sorted(rows))
        self.assertEqual(len({tuple(row) for row in rows}), 1000)

    def test_stretches_far_apart(self):
        unit = 10**38
        site = Site.plain(2, 90 * unit, 90 * unit)
        trials = [reached(0, 10 * unit), missed(0, 80 * unit), reached(1, 0), reached(1, 0)]
        self.assertEqual(next_shape(site, trials, [10 * unit, 0], misreads=1), [80 * unit + 1, 0])
        self.assertEqual(next_shape(site, trials, [90 * unit - 1, 0], misreads=1), [90 * unit, 0])
        self.assertIsNone(next_shape(site, trials, [90 * unit, 0], misreads=1))
        self.assertEqual(next_shape(site, trials, [10 * unit, 0], misreads=2), [10 * unit + 1, 0])


if __name__ == "__main__":
    unittest.main()
