"""Points [15] to [17]: what is known if no trial is misread."""

import random
import unittest
from itertools import product

from samples import (
    HUGE,
    PaperChecks,
    agreeing,
    drawn_trials,
    is_shape,
    large_site,
    least_sums,
    misreads_of,
    missed,
    reached,
    shapes_of,
    small_site,
    time_limit,
    told_of,
    trials_about,
    with_trials,
)

from rungbounds.bounds import Bounds
from rungbounds.errors import NoPlace, NoShape, OtherSite
from rungbounds.sites import Site
from rungbounds.trials import Trial

WALLS = [("a", 9, 2, (1,)), ("b", 9, 9, ())]
LINKS = [(1, 2, 0, 3)]


def columns(shapes):
    """Return for each place the heights that it has among the shapes."""
    return [sorted(set(heights)) for heights in zip(*shapes)]


def told_trials(bounds):
    return [(trial.place, trial.height, trial.reached) for trial in bounds.as_trials()]


class BoundsChecks(PaperChecks):
    def assert_bounds(self, bounds, site, lows, highs):
        """Check everything that the least and greatest heights decide."""
        self.assertIs(bounds.__class__, Bounds)
        self.assertIs(bounds.site, site)
        self.assertEqual((bounds.lows(), bounds.highs()), (lows, highs))
        self.assertEqual((bounds.lows().__class__, bounds.highs().__class__), (list, list))
        self.assertEqual(len(bounds), site.size)
        for place in range(site.size):
            self.assertIs(bounds[place].__class__, tuple)
            self.assertEqual(bounds[place], (lows[place], highs[place]))
        rows = []
        for place in range(site.size):
            rows += [(place, highs[place], True), (place, lows[place] - 1, False)]
        self.assertIs(bounds.as_trials().__class__, list)
        self.assertEqual(told_trials(bounds), rows)
        self.assertTrue(all(trial.__class__ is Trial for trial in bounds.as_trials()))
        again = Bounds(site, bounds.as_trials())
        self.assertIs(again == bounds, True)
        self.assertEqual((again.lows(), again.highs()), (lows, highs))

    def assert_listed(self, bounds, site, shapes, left):
        """Check Bounds against the shapes that are left of all shapes."""
        heights = columns(left)
        for own in heights:
            self.assertEqual(own, list(range(own[0], own[-1] + 1)))
        lows, highs = [own[0] for own in heights], [own[-1] for own in heights]
        self.assert_bounds(bounds, site, lows, highs)
        self.assertIn(bounds.lows(), left)
        self.assertIn(bounds.highs(), left)
        for shape in shapes:
            self.assertIs(shape in bounds, shape in left)


class ListingTest(BoundsChecks):
    def test_example(self):
        bounds = Bounds(Site.plain(3, 20, 2), [missed(0, 9), reached(2, 15)])
        self.assertEqual([bounds.lows(), bounds.highs(), bounds[1]], [[10, 8, 6], [19, 17, 15], (8, 17)])

    def test_drawn_lists(self):
        draw = random.Random(101)
        found = []
        for at in range(500):
            walls, links, shapes = small_site(draw, 4, 4, 0 if at % 3 else 3)
            trials = drawn_trials(draw, len(shapes[0]), at % 6, 5)
            site, left = Site(walls, links), agreeing(shapes, trials)
            given = trials if at % 2 else tuple(trials)
            found.append(len(left))
            with self.subTest(walls=walls, links=links, trials=[str(trial) for trial in trials]):
                if left:
                    bounds = Bounds(site, given)
                    self.assert_listed(bounds, site, shapes, left)
                    self.assert_papers(told_of(walls, links), trials, bounds)
                else:
                    self.assert_no_shape(shapes, trials, Bounds, site, given)
        self.assertGreater(found.count(0), 80)
        self.assertGreater(sum(count > 3 for count in found), 80)

    def test_lists_that_are_no_shape(self):
        draw = random.Random(103)
        for _ in range(30):
            walls, links, shapes = small_site(draw, 3, 4, 2)
            trials = drawn_trials(draw, len(shapes[0]), 2, 4)
            if not agreeing(shapes, trials):
                continue
            bounds = Bounds(Site(walls, links), trials)
            for heights in product(range(-2, 7), repeat=len(shapes[0])):
                right = is_shape(walls, links, heights) and not misreads_of(trials, heights)
                self.assertIs(list(heights) in bounds, right)
                self.assertIs(list(heights) not in bounds, not right)

    def test_each_trial_by_one(self):
        site = Site([("a", 20, 20, (1, 1))])
        bounds = Bounds(site, [reached(0, 7), missed(1, 9), reached(2, 12), missed(2, 4)])
        self.assertEqual([bounds[place] for place in range(3)], [(0, 7), (10, 20), (5, 12)])
        self.assertIn([7, 10, 12], bounds)
        self.assertIn([0, 20, 5], bounds)
        for heights in ([8, 10, 12], [7, 9, 12], [7, 10, 13], [7, 10, 4], [-1, 10, 12], [7, 21, 12]):
            self.assertNotIn(heights, bounds)

    def test_lists_of_another_length(self):
        for bounds in (Bounds(Site.plain(2, 5, 5)), Bounds(Site.plain(2, 5, 5), [reached(1, 3)])):
            for heights in ([], [0], [0, 0, 0], [0] * 30):
                self.assertNotIn(heights, bounds)
            self.assertIn([0, 0], bounds)

    def test_trials_left_out_list_or_tuple(self):
        site = Site(WALLS, LINKS)
        shapes = shapes_of(WALLS, LINKS)
        for bounds in (Bounds(site), Bounds(site, []), Bounds(site, ()), Bounds(trials=[], site=site)):
            self.assert_listed(bounds, site, shapes, shapes)
        trials = [reached(2, 4), missed(0, 1)]
        for bounds in (Bounds(site, trials), Bounds(site, tuple(trials)), Bounds(trials=trials, site=site)):
            self.assert_listed(bounds, site, shapes, agreeing(shapes, trials))

    def test_site_without_walls(self):
        site = Site([])
        for bounds in (Bounds(site), Bounds(site, []), Bounds(site, ())):
            self.assert_bounds(bounds, site, [], [])
            self.assertIn([], bounds)
            self.assertNotIn([0], bounds)
            other = Bounds(site)
            for both in (bounds & other, bounds | other, bounds & bounds):
                self.assert_bounds(both, site, [], [])
            self.assertEqual((bounds <= other, bounds == other, bounds != other), (True, True, False))
            for place in (-1, 0, 1):
                self.assert_raises(NoPlace, place, lambda: bounds[place])
                self.assert_all_raise(NoPlace, place, [bounds.high_paper, bounds.low_paper], place)
        for place in (-1, 0):
            self.assert_raises(NoPlace, place, Bounds, site, [reached(place, 3)])

    def test_no_place(self):
        bounds = Bounds(Site(WALLS, LINKS), [reached(2, 4)])
        for place in (-HUGE, -3, -2, -1, 3, 4, HUGE):
            self.assert_raises(NoPlace, place, lambda: bounds[place])
            self.assert_raises(NoPlace, place, bounds.high_paper, place)
            self.assert_raises(NoPlace, place, bounds.low_paper, place)

    def test_errors_of_the_constructor(self):
        site, shapes = Site(WALLS, LINKS), shapes_of(WALLS, LINKS)
        good, alone = reached(2, 4), reached(0, -1)
        for place in (-HUGE, -2, -1, 3, HUGE):
            for bad in (reached(place, 4), missed(place, 4)):
                for trials in ([bad], [good, bad, reached(99, 1)], [alone, bad], (missed(2, 4), good, bad, alone)):
                    self.assert_raises(NoPlace, place, Bounds, site, trials)
        for trials in (
            [alone],
            [missed(2, 9)],
            [good, missed(2, 4)],
            [missed(0, 6), good],
            [missed(0, 6), good, alone, reached(1, 4), missed(1, 4), missed(2, 5), alone],
        ):
            self.assert_no_shape(shapes, trials, Bounds, site, trials)
            self.assert_no_shape(shapes, trials, Bounds, site, tuple(trials))
        self.assertEqual(Bounds(site, [missed(0, 6), reached(2, 5)]).lows(), [7, 5, 5])

    def test_lists_that_are_changed_afterwards(self):
        site = Site(WALLS, LINKS)
        trials = [reached(2, 4), missed(0, 3)]
        bounds = Bounds(site, trials)
        told = (bounds.lows(), bounds.highs(), told_trials(bounds), bounds.high_paper(0), bounds.low_paper(1))
        trials[0] = missed(2, 8)
        trials.insert(0, reached(0, 1))
        trials.clear()
        chains = bounds.high_paper(0)[1], bounds.low_paper(1)[1]
        for rows in (bounds.lows(), bounds.highs(), bounds.as_trials(), *chains):
            rows.append(99)
            rows[0] = 98
        again = (bounds.lows(), bounds.highs(), told_trials(bounds), bounds.high_paper(0), bounds.low_paper(1))
        self.assertEqual(again, told)
        self.assert_papers(told_of(WALLS, LINKS), [reached(2, 4), missed(0, 3)], bounds)

    def test_nothing_is_changed(self):
        trials, heights = [reached(2, 4), missed(0, 3)], [4, 4, 4]
        kept = [str(trial) for trial in trials]
        bounds = Bounds(Site(WALLS, LINKS), trials)
        self.assertIn(heights, bounds)
        self.assertEqual(([str(trial) for trial in trials], heights), (kept, [4, 4, 4]))

    def test_is_not_iterated_over(self):
        with self.assertRaises(TypeError):
            list(Bounds(Site(WALLS, LINKS)))


class PaperTest(BoundsChecks):
    def test_papers_by_hand(self):
        bounds = Bounds(Site.plain(3, 20, 2), [missed(0, 9), reached(2, 15)])
        self.assertEqual([bounds.high_paper(place) for place in range(3)], [(1, [2, 1, 0]), (1, [2, 1]), (1, [2])])
        self.assertEqual([bounds.low_paper(place) for place in range(3)], [(0, [0]), (0, [1, 0]), (0, [2, 1, 0])])
        bounds = Bounds(Site.plain(3, 20, 2), [missed(0, -9), reached(2, 35), missed(2, 2), reached(0, 17)])
        self.assertEqual([bounds.high_paper(place) for place in range(3)], [(3, [0]), (3, [0, 1]), (-1, [-1, 2])])
        self.assertEqual([bounds.low_paper(place) for place in range(3)], [(-1, [0, -1]), (2, [1, 2]), (2, [2])])

    def test_papers_without_trials(self):
        site = Site(WALLS, [(1, 2, 2, 3), (0, 2, 1, 3)])
        bounds = Bounds(site)
        self.assert_papers(told_of(WALLS, [(1, 2, 2, 3), (0, 2, 1, 3)]), [], bounds)
        for place in range(3):
            self.assertEqual((bounds.high_paper(place)[0], bounds.low_paper(place)[0]), (-1, -1))

    def test_paper_names_the_trial_that_tells_most(self):
        bounds = Bounds(Site.plain(1, 20, 0), [reached(0, 9), reached(0, 5), missed(0, 1), reached(0, 7), missed(0, 3)])
        self.assertEqual((bounds.high_paper(0), bounds.low_paper(0)), ((1, [0]), (4, [0])))
        bounds = Bounds(Site.plain(1, 20, 0), [missed(0, 3), reached(0, 5), missed(0, 3), reached(0, 5)])
        self.assertIn(bounds.high_paper(place=0), [(1, [0]), (3, [0])])
        self.assertIn(bounds.low_paper(place=0), [(0, [0]), (2, [0])])

    def test_large_sites(self):
        draw = random.Random(107)
        with time_limit(120):
            for unit in (1, 30, 10**38, 10**38, 10**38):
                walls, links, heights = large_site(draw, unit)
                trials = trials_about(draw, heights, 40, unit // 2, 0)
                site, told = Site(walls, links), told_of(walls, links)
                bounds = Bounds(site, trials)
                limits = with_trials(told, trials)
                highs = [least_sums(24, limits, -1)[place] for place in range(24)]
                lows = [-least_sums(24, limits, place)[-1] for place in range(24)]
                self.assert_bounds(bounds, site, lows, highs)
                self.assert_papers(told, trials, bounds)
                for shape in (lows, highs, heights):
                    self.assertTrue(is_shape(walls, links, shape))
                    self.assertEqual(misreads_of(trials, shape), [])
                    self.assertIn(shape, bounds)
                for place in range(24):
                    for other in (highs[:place] + [highs[place] + 1] + highs[place + 1:],
                                  lows[:place] + [lows[place] - 1] + lows[place + 1:]):
                        self.assertNotIn(other, bounds)


class OperatorTest(BoundsChecks):
    def assert_both(self, first, second, shapes, told):
        """Check & of two Bounds against the listing; tell whether it has a shape."""
        site = first.site
        both = [heights for heights in shapes if heights in first and heights in second]
        rows = first.as_trials() + second.as_trials()
        if not both:
            self.assert_no_shape(shapes, rows, lambda: first & second)
            return False
        result = first & second
        self.assert_listed(result, site, shapes, both)
        self.assertIs(result == Bounds(site, rows), True)
        self.assert_papers(told, rows, result)
        return True

    def assert_either(self, first, second, shapes, told):
        """Check | of two Bounds against the listing."""
        result = first | second
        lows = [min(pair) for pair in zip(first.lows(), second.lows())]
        highs = [max(pair) for pair in zip(first.highs(), second.highs())]
        self.assert_bounds(result, first.site, lows, highs)
        self.assert_papers(told, result.as_trials(), result)
        either = [heights for heights in shapes if heights in first or heights in second]
        self.assertTrue(all(heights in result for heights in either))
        self.assertEqual([(own[0], own[-1]) for own in columns(either)], list(zip(lows, highs)))
        between = [
            heights
            for heights in shapes
            if all(low <= height <= high for low, height, high in zip(lows, heights, highs))
        ]
        self.assert_listed(result, first.site, shapes, between)

    def assert_order(self, first, second, shapes):
        """Check <= and == against the listing; return them."""
        mine = [heights for heights in shapes if heights in first]
        theirs = [heights for heights in shapes if heights in second]
        below, equal = all(heights in theirs for heights in mine), mine == theirs
        self.assertIs(first <= second, below)
        self.assertIs(first == second, equal)
        self.assertIs(first != second, not equal)
        return below, equal

    def test_drawn_pairs(self):
        draw = random.Random(109)
        joined, orders = [], []
        for at in range(400):
            walls, links, shapes = small_site(draw, 3, 5, 0 if at % 3 else 2)
            site, told = Site(walls, links), told_of(walls, links)
            lists = [drawn_trials(draw, site.size, draw.randint(0, 3), 5) for _ in range(2)]
            if at % 4 == 0:
                lists[1] = lists[0] + lists[1]
            if at % 4 == 1:
                lists[1] = [~trial for trial in lists[0][:1]] + lists[1]
            if not all(agreeing(shapes, trials) for trials in lists):
                continue
            first, second = [Bounds(site, trials) for trials in lists]
            with self.subTest(walls=walls, links=links, lists=[[str(trial) for trial in part] for part in lists]):
                kept = [told_trials(first), told_trials(second)]
                joined.append(self.assert_both(first, second, shapes, told))
                self.assert_either(first, second, shapes, told)
                orders.append(self.assert_order(first, second, shapes))
                orders.append(self.assert_order(second, first, shapes))
                self.assertEqual([told_trials(first), told_trials(second)], kept)
        self.assertGreater(joined.count(True), 50)
        self.assertGreater(joined.count(False), 10)
        for order in [(True, True), (True, False), (False, False)]:
            self.assertGreater(orders.count(order), 20)

    def test_both_by_hand(self):
        site = Site.plain(1, 20, 0)
        first, second = Bounds(site, [reached(0, 12), missed(0, 3)]), Bounds(site, [reached(0, 17), missed(0, 8)])
        self.assertEqual([(first & second)[0], (second & first)[0]], [(9, 12), (9, 12)])
        # The list of &: reached at 12, missed at 3, reached at 17, missed at 8.
        self.assertEqual([(first & second).high_paper(0), (first & second).low_paper(0)], [(0, [0]), (3, [0])])
        self.assertEqual([(second & first).high_paper(0), (second & first).low_paper(0)], [(2, [0]), (1, [0])])
        self.assertEqual([(first | second)[0], (second | first)[0]], [(4, 17), (4, 17)])
        self.assertEqual([(first | second).high_paper(0), (first | second).low_paper(0)], [(0, [0]), (1, [0])])

    def test_both_without_a_shape(self):
        site = Site.plain(1, 20, 0)
        low, high = Bounds(site, [reached(0, 8)]), Bounds(site, [missed(0, 8)])
        self.assert_raises(NoShape, [(3, 0)], lambda: low & high)
        self.assert_raises(NoShape, [(1, 2)], lambda: high & low)
        self.assertEqual((low | high)[0], (0, 20))
        walls = [("a", 5, 0, ()), ("b", 5, 0, ())]
        site, shapes = Site(walls), shapes_of(walls, [])
        low, high = Bounds(site, [reached(0, 2), reached(1, 2)]), Bounds(site, [missed(0, 2), missed(1, 2)])
        self.assert_no_shape(shapes, low.as_trials() + high.as_trials(), lambda: low & high)
        self.assert_no_shape(shapes, high.as_trials() + low.as_trials(), lambda: high & low)
        with self.assertRaises(NoShape) as caught:
            low & high
        self.assertEqual(sorted(caught.exception.blames), [(5, 0), (7, 2)])

    def test_either_fills_gaps(self):
        site = Site.plain(2, 20, 3)
        first, second = Bounds(site, [reached(0, 2)]), Bounds(site, [missed(0, 15)])
        either = first | second
        self.assertEqual((either.lows(), either.highs()), ([0, 0], [20, 20]))
        self.assertIn([9, 9], either)
        self.assertNotIn([9, 9], first)
        self.assertNotIn([9, 9], second)

    def test_results_keep_apart(self):
        site = Site.plain(2, 20, 3)
        first, second = Bounds(site, [reached(0, 9)]), Bounds(site, [missed(1, 4)])
        both, either = first & second, first | second
        told = [told_trials(part) for part in (both, either)]
        for part in (first, second):
            part.lows().clear()
            part.as_trials().clear()
        self.assertEqual([told_trials(part) for part in (both, either)], told)
        self.assertEqual((either.site, both.site, either.site is site, both.site is site), (site, site, True, True))

    def test_other_site(self):
        site, like = Site(WALLS, LINKS), Site(WALLS, LINKS)
        others = [like, Site(WALLS), Site.plain(3, 9, 2), Site([])]
        for trials in ([], [reached(0, 3)]):
            mine = Bounds(site, trials)
            for other in others:
                theirs = Bounds(other, trials if other.size else [])
                for first, second in [(mine, theirs), (theirs, mine)]:
                    for call in (lambda: first & second, lambda: first | second, lambda: first <= second):
                        with self.assertRaises(OtherSite) as caught:
                            call()
                        self.assertIs(caught.exception.__class__, OtherSite)
                    self.assertIs(first == second, False)
                    self.assertIs(first != second, True)
        # The sites are asked about first, also where no shape would be in both.
        with self.assertRaises(OtherSite):
            Bounds(site, [reached(0, 3)]) & Bounds(like, [missed(0, 3)])

    def test_equal_at_the_same_site(self):
        site = Site(WALLS, LINKS)
        self.assertIs(Bounds(site, [reached(0, 3), reached(0, 5)]) == Bounds(site, [reached(0, 3)]), True)
        self.assertIs(Bounds(site, [reached(0, 3)]) == Bounds(site, [reached(0, 4)]), False)
        self.assertIs(Bounds(site, [missed(0, 3)]) == Bounds(site, [missed(0, 4)]), False)
        self.assertIs(Bounds(site, [reached(0, 30)]) == Bounds(site), True)
        bounds = Bounds(site)
        self.assertEqual((bounds == bounds, bounds <= bounds), (True, True))

    def test_equal_needs_all_places(self):
        site = Site([("a", 9, 0, ()), ("b", 9, 0, ()), ("c", 9, 0, ())])
        whole = Bounds(site)
        for place in range(3):
            for trial in (reached(place, 8), missed(place, 0)):
                part = Bounds(site, [trial])
                self.assertEqual((part == whole, whole == part), (False, False))
                self.assertEqual((part <= whole, whole <= part), (True, False))

    def test_not_equal_to_other_kinds(self):
        bounds = Bounds(Site.plain(1, 5, 0), [reached(0, 3)])

        class Like:
            site = bounds.site

            def lows(self):
                return [0]

            def highs(self):
                return [3]

        for other in (None, 0, "0 3", [(0, 3)], (0, 3), bounds.site, bounds.lows(), bounds.as_trials(), Like(), Bounds):
            self.assertIs(bounds == other, False)
            self.assertIs(other == bounds, False)
            self.assertIs(bounds != other, True)

    def test_large_sites(self):
        draw = random.Random(113)
        with time_limit(120):
            for unit in (20, 10**38):
                walls, links, heights = large_site(draw, unit)
                site, told = Site(walls, links), told_of(walls, links)
                first, second = [Bounds(site, trials_about(draw, heights, 20, unit // 2, 0)) for _ in range(2)]
                rows = first.as_trials() + second.as_trials()
                both, either = first & second, first | second
                self.assertEqual(len(rows), 96)
                self.assert_papers(told, rows, both)
                self.assert_papers(told, either.as_trials(), either)
                limits = with_trials(told, rows)
                self.assertEqual(both.highs(), [least_sums(24, limits, -1)[place] for place in range(24)])
                self.assertEqual(both.lows(), [-least_sums(24, limits, place)[-1] for place in range(24)])
                self.assertEqual(either.lows(), [min(pair) for pair in zip(first.lows(), second.lows())])
                self.assertEqual(either.highs(), [max(pair) for pair in zip(first.highs(), second.highs())])
                for part in (first, second):
                    self.assertEqual((both <= part, part <= either), (True, True))
                    self.assertEqual((part <= both, either <= part), (part == both, either == part))

    def test_large_sites_without_a_common_shape(self):
        walls = [(name, HUGE, 10**38, (1,) * 5) for name in ("north", "east", "south", "west")]
        site = Site(walls, [(0, 6, -HUGE, HUGE)] * 40)
        low = Bounds(site, [reached(place, 10**38) for place in range(24)])
        high = Bounds(site, [missed(place, 10**38) for place in range(24)])
        with time_limit(60), self.assertRaises(NoShape) as caught:
            low & high
        # Of the 96 trials, the 24 reached ones of `low` and the missed ones of `high` are at odds.
        self.assertEqual(len(caught.exception.blames), 24)
        self.assertEqual(sorted(number for number, _ in caught.exception.blames), list(range(49, 96, 2)))
        self.assertEqual(sorted(number for _, number in caught.exception.blames), list(range(0, 48, 2)))


if __name__ == "__main__":
    unittest.main()
