"""Points [21] to [23]: possible heights, and ladders that surely reach or surely miss."""

import random
import unittest

from samples import (
    HUGE,
    ErrorChecks,
    allowed,
    agreeing,
    drawn_trials,
    fewest_of,
    large_site,
    missed,
    reached,
    runs_of,
    shapes_of,
    small_site,
    time_limit,
    trials_about,
    wide_site,
)

from rungbounds.errors import BadNumber, NoPlace, NoShape
from rungbounds.heights import never_foot, shortest_sure, stretches, sure_foot, within
from rungbounds.ladders import Rack, reach
from rungbounds.misread import fewest_misread
from rungbounds.sites import Site
from rungbounds.trials import pinned

WALLS = [("a", 9, 2, (1,)), ("b", 9, 9, ())]
LINKS = [(1, 2, 0, 3)]
RACK = Rack(ash=5, birch=3, cedar=7, oak=1)


def column(shapes, place):
    return sorted({heights[place] for heights in shapes})


def asked(site, trials, place, **told):
    """Return calls of all functions of the module with the same arguments."""
    return [
        lambda: stretches(site, trials, place, **told),
        lambda: within(site, trials, place, 3, **told),
        lambda: sure_foot(site, trials, place, 5, **told),
        lambda: never_foot(site, trials, place, 5, **told),
        lambda: shortest_sure(site, trials, place, RACK, **told),
    ]


class StretchesTest(ErrorChecks):
    def check_listed(self, walls, links, shapes, trials, sure):
        """Check the stretches of all places for all allowances; return how many there were."""
        site = Site(walls, links)
        told = {"sure": sure} if sure else {}
        left = agreeing(shapes, sure)
        counts = []
        for place in range(site.size):
            before = []
            for misreads in range(len(trials) + 2):
                found = stretches(site, trials, place, misreads=misreads, **told)
                self.assertIs(found.__class__, list)
                self.assertTrue(all(pair.__class__ is tuple for pair in found))
                heights = column(allowed(left, trials, misreads), place)
                self.assertEqual(found, runs_of(heights))
                self.assertTrue(set(before) <= set(heights))
                before = heights
                counts.append(len(found))
            self.assertEqual(stretches(site, trials, place, **told), runs_of(column(allowed(left, trials), place)))
        return counts

    def test_example(self):
        site = Site.plain(2, 20, 30)
        trials = [reached(0, 4), missed(0, 11)]
        self.assertEqual(stretches(site, trials, 0, misreads=1), [(0, 4), (12, 20)])

    def test_drawn_lists(self):
        draw = random.Random(211)
        counts = []
        for at in range(250):
            walls, links, shapes = wide_site(draw, at % 3) if at % 2 else small_site(draw, 4, 5, at % 4)
            trials = drawn_trials(draw, len(shapes[0]), draw.randint(0, 7), 10 if at % 2 else 5)
            given = trials if at % 3 else tuple(trials)
            with self.subTest(walls=walls, links=links, trials=[str(trial) for trial in trials]):
                counts += self.check_listed(walls, links, shapes, given, ())
        for count, least in [(0, 100), (1, 100), (2, 50)]:
            self.assertGreater(counts.count(count), least)

    def test_drawn_lists_with_sure(self):
        draw = random.Random(223)
        counts = []
        for at in range(250):
            walls, links, shapes = wide_site(draw, at % 3) if at % 2 else small_site(draw, 4, 5, at % 4)
            trials = drawn_trials(draw, len(shapes[0]), draw.randint(0, 6), 10 if at % 2 else 5)
            sure = drawn_trials(draw, len(shapes[0]), draw.randint(1, 3), 10 if at % 2 else 5)
            given = sure if at % 3 else tuple(sure)
            with self.subTest(walls=walls, links=links, trials=[str(trial) for trial in trials], sure=sure):
                counts += self.check_listed(walls, links, shapes, trials, given)
                if not agreeing(shapes, sure):
                    self.assertEqual(counts[-1], 0)
        for count, least in [(0, 100), (1, 100), (2, 5)]:
            self.assertGreater(counts.count(count), least)

    def test_many_stretches(self):
        # Each two trials leave a gap between them: one of them is misread.
        walls = [("a", 40, 0, ())]
        trials = [trial for at in range(6) for trial in (missed(0, 6 * at + 3), reached(0, 6 * at + 5))]
        shapes = shapes_of(walls, [])
        counts = self.check_listed(walls, [], shapes, trials, ())
        self.assertEqual(counts[fewest_of(shapes, trials)], 6)
        gaps = [trial for at in range(6) for trial in (reached(0, 6 * at + 3), missed(0, 6 * at + 5))]
        counts = self.check_listed(walls, [], shapes, gaps, ())
        self.assertEqual(counts[fewest_of(shapes, gaps)], 7)

    def test_stretches_that_would_touch_are_one(self):
        site = Site.plain(1, 9, 0)
        # With either trial misread: heights to 4, and heights from 5 on.
        self.assertEqual(stretches(site, [reached(0, 4), missed(0, 4)], 0, misreads=1), [(0, 9)])
        self.assertEqual(stretches(site, [reached(0, 4), missed(0, 5)], 0, misreads=1), [(0, 4), (6, 9)])
        self.assertEqual(stretches(site, [reached(0, 5), missed(0, 4)], 0, misreads=1), [(0, 9)])
        self.assertEqual(stretches(site, [reached(0, 5), missed(0, 4)], 0), [(5, 5)])

    def test_other_places_count(self):
        site = Site.plain(3, 20, 2)
        trials = [reached(2, 5), missed(0, 13)]
        self.assertEqual(stretches(site, trials, 1), [])
        self.assertEqual(stretches(site, trials, 1, misreads=1), [(0, 7), (12, 20)])
        self.assertEqual(stretches(site, trials, 1, misreads=1, sure=[reached(0, 11)]), [(0, 7)])
        self.assertEqual(stretches(site, trials, 1, misreads=1, sure=[reached(0, 14)]), [(0, 7), (12, 16)])
        self.assertEqual(stretches(site, trials, 1, misreads=2), [(0, 20)])

    def test_no_height(self):
        site = Site(WALLS, LINKS)
        alone = [reached(0, -1), missed(2, 9), reached(1, 3), missed(1, 3)]
        for place in range(3):
            self.assertEqual(stretches(site, alone, place), [])
            self.assertEqual(stretches(site, alone, place, misreads=2), [])
            self.assertNotEqual(stretches(site, alone, place, misreads=3), [])
            for sure in ([reached(0, -1)], [reached(1, 4), missed(1, 4)], (missed(0, 6), reached(2, 4))):
                for misreads in (0, 1, 9):
                    self.assertEqual(stretches(site, [], place, misreads=misreads, sure=sure), [])
                    self.assertEqual(stretches(site, alone, place, misreads=misreads, sure=sure), [])

    def test_without_trials(self):
        site = Site(WALLS, LINKS)
        for misreads in (0, 1, HUGE):
            for trials in ([], ()):
                found = [stretches(site, trials, place, misreads=misreads) for place in range(3)]
                self.assertEqual(found, [[(0, 9)], [(0, 9)], [(0, 9)]])

    def test_every_list_is_new(self):
        site, trials, sure = Site.plain(1, 9, 0), [reached(0, 4), missed(0, 6)], [reached(0, 8)]
        first = stretches(site, trials, 0, misreads=1, sure=sure)
        first.clear()
        self.assertEqual(stretches(site, trials, 0, misreads=1, sure=sure), [(0, 4), (7, 8)])
        self.assertEqual([str(trial) for trial in trials + sure], ["0 4 reached", "0 6 missed", "0 8 reached"])

    def test_names_of_arguments(self):
        site = Site.plain(2, 20, 30)
        found = stretches(misreads=1, place=0, trials=[reached(0, 4), missed(0, 11)], sure=[reached(0, 14)], site=site)
        self.assertEqual(found, [(0, 4), (12, 14)])
        with self.assertRaises(TypeError):
            stretches(site, [], 0, 1)

    def test_order_of_errors(self):
        site = Site(WALLS, LINKS)
        good, bad = reached(1, 3), missed(3, 4)
        for place in (-HUGE, -2, -1, 3, HUGE):
            worse = reached(place, 4)
            for trials in ([worse, bad], [good, worse], (reached(0, -1), worse, bad)):
                self.assert_raises(NoPlace, place, stretches, site, trials, 7, misreads=-1, sure=[missed(9, 9)])
                self.assert_raises(NoPlace, place, stretches, site, [good], 7, misreads=-1, sure=trials)
            self.assert_raises(NoPlace, place, stretches, site, [good], place, misreads=-1, sure=[reached(0, -1)])
        for misreads in (-1, -HUGE):
            self.assert_raises(BadNumber, misreads, stretches, site, [good], 0, misreads=misreads, sure=[good])


class SizeTest(ErrorChecks):
    """Lists of 40 trials at sites of 24 places and 40 links, with heights of 40 digits."""

    def check_ends(self, site, trials, place, misreads, sure):
        """Check just where the stretches begin and end; return them."""
        found = stretches(site, trials, place, misreads=misreads, sure=sure)
        self.assertTrue(all(least <= greatest for least, greatest in found))
        self.assertTrue(all(first[1] + 1 < second[0] for first, second in zip(found, found[1:])))
        # Where the set of trials at odds with a height changes, something can begin or end.
        marks = {0, site.top_of(place)}
        marks |= {height + step for pair in found for height in pair for step in (-1, 0, 1)}
        for trial in [*trials, *sure]:
            for rise in (site.limit(trial.place, place), -site.limit(place, trial.place)):
                marks |= {trial.height + rise, trial.height + rise + 1}
        for height in marks:
            fewest = fewest_misread(site, trials, sure=[*sure, *pinned(place, height)])
            possible = fewest is not None and fewest <= misreads
            self.assertIs(any(least <= height <= greatest for least, greatest in found), possible)
        return found

    def test_forty_trials(self):
        draw = random.Random(227)
        counts = []
        with time_limit(200):
            for unit, wrong in [(40, 9), (10**38, 3), (10**38, 10), (10**38, 20)]:
                walls, links, heights = large_site(draw, unit)
                trials, site = trials_about(draw, heights, 40, unit, wrong), Site(walls, links)
                sure = trials_about(draw, heights, 3, unit, 0)
                for told in ([], sure):
                    fewest = fewest_misread(site, trials, sure=told)
                    for place in draw.sample(range(24), 3):
                        self.assertEqual(stretches(site, trials, place, misreads=fewest - 1, sure=told), [])
                        for misreads in (fewest, fewest + 1, fewest + 4):
                            counts.append(len(self.check_ends(site, trials, place, misreads, told)))
        self.assertGreater(max(counts), 1)

    def test_forty_trials_at_one_place(self):
        unit = 10**38
        walls = [(name, HUGE, HUGE, (1,) * 5) for name in ("north", "east", "south", "west")]
        site = Site(walls, [(0, 6, -unit, unit)] * 40)
        trials = [trial for at in range(20) for trial in (reached(0, 4 * at * unit), missed(0, (4 * at + 2) * unit))]
        with time_limit(60):
            found = stretches(site, trials, 0, misreads=20)
            middle = [((4 * at + 2) * unit + 1, (4 * at + 4) * unit) for at in range(19)]
            self.assertEqual(found, [(0, 0), *middle, (78 * unit + 1, HUGE)])
            self.assertEqual(self.check_ends(site, trials, 6, 20, []), stretches(site, trials, 6, misreads=20))
            self.assertEqual(stretches(site, trials, 0, misreads=19), [])
            self.assertEqual(stretches(site, trials, 0, misreads=40), [(0, HUGE)])

    def test_the_others(self):
        unit = 10**38
        site = Site.plain(3, 90 * unit, unit)
        trials = [reached(0, 20 * unit), missed(0, 60 * unit), missed(1, 7 * unit)] * 2
        self.assertEqual(stretches(site, trials, 1, misreads=2), [(7 * unit + 1, 21 * unit), (59 * unit + 1, 90 * unit)])
        ends = [7 * unit, 7 * unit + 1, 90 * unit - 1, 90 * unit]
        self.assertEqual([within(site, trials, 1, at, misreads=2) for at in ends], ["never", "open", "open", "surely"])
        self.assertEqual(sure_foot(site, trials, 1, 150 * unit, misreads=2), 120 * unit)
        foot = never_foot(site, [reached(1, 9 * unit), missed(1, 4 * unit - 1)], 1, 5 * unit)
        self.assertEqual(foot, 3 * unit + 1)
        rack = Rack(ash=89 * unit, birch=unit + 2)
        self.assertEqual(shortest_sure(site, trials, 1, rack, misreads=2, most=2), ["ash", "birch"])


class WithinTest(ErrorChecks):
    def verdict(self, heights, height):
        if max(heights) <= height:
            return "surely"
        return "never" if min(heights) > height else "open"

    def test_drawn_lists(self):
        draw = random.Random(229)
        found = []
        for at in range(150):
            walls, links, shapes = small_site(draw, 3, 5, at % 3)
            trials = drawn_trials(draw, len(shapes[0]), draw.randint(0, 6), 5)
            site = Site(walls, links)
            given = trials if at % 2 else tuple(trials)
            for misreads in range(4):
                left = allowed(shapes, trials, misreads)
                for place in range(site.size):
                    for height in range(-2, 8):
                        if not left:
                            self.assert_no_shape(shapes, trials, within, site, given, place, height, misreads=misreads)
                            continue
                        told = within(site, given, place, height, misreads=misreads)
                        self.assertEqual(told, self.verdict(column(left, place), height))
                        found.append(told)
        self.assertEqual(sorted(set(found)), ["never", "open", "surely"])

    def test_each_end(self):
        site = Site.plain(1, 30, 0)
        trials = [missed(0, 3), reached(0, 7), missed(0, 14), reached(0, 19)]
        self.assertEqual(stretches(site, trials, 0, misreads=1), [(4, 7), (15, 19)])
        told = [within(site, trials, 0, height, misreads=1) for height in range(31)]
        self.assertEqual(told, ["never"] * 4 + ["open"] * 15 + ["surely"] * 12)
        self.assertEqual(within(site, trials, 0, -HUGE, misreads=1), "never")
        self.assertEqual(within(site, trials, 0, HUGE, misreads=1), "surely")

    def test_a_single_height(self):
        site = Site.plain(1, 30, 0)
        told = [within(site, pinned(0, 6), 0, height) for height in (5, 6, 7)]
        self.assertEqual(told, ["never", "surely", "surely"])
        self.assertEqual([within(Site([("a", 0, 0, ())]), [], 0, height) for height in (-1, 0)], ["never", "surely"])

    def test_allowance_left_out_is_zero(self):
        site = Site.plain(1, 9, 0)
        self.assertEqual(within(site, [reached(0, 4)], 0, 4), "surely")
        self.assertEqual(within(misreads=1, height=4, place=0, trials=(reached(0, 4),), site=site), "open")
        with self.assertRaises(TypeError):
            within(site, [], 0, 4, 0)


class FootTest(ErrorChecks):
    def check_feet(self, site, trials, place, length, misreads):
        """Check both feet against within, foot by foot."""
        told = [within(site, trials, place, reach(length, foot), misreads=misreads) for foot in range(length + 3)]
        sure = [foot for foot in range(length + 1) if told[foot] == "surely"]
        foot = sure_foot(site, trials, place, length, misreads=misreads)
        self.assertEqual(foot, sure[-1] if sure else -1)
        self.assertEqual(sure, list(range(foot + 1)))
        foot = never_foot(site, trials, place, length, misreads=misreads)
        self.assertGreaterEqual(foot, 0)
        self.assertEqual(told[foot:], ["never"] * (length + 3 - foot))
        self.assertNotIn("never", told[:foot])

    def test_drawn_lists(self):
        draw = random.Random(233)
        for at in range(40):
            walls, links, shapes = small_site(draw, 3, 9, at % 3)
            trials = drawn_trials(draw, len(shapes[0]), draw.randint(0, 5), 9)
            site = Site(walls, links)
            for misreads in (0, 1, 2):
                for place in range(site.size):
                    for length in (0, 1, 4, 9, 12):
                        if allowed(shapes, trials, misreads):
                            self.check_feet(site, trials, place, length, misreads)
                            continue
                        for call in (sure_foot, never_foot):
                            self.assert_no_shape(shapes, trials, call, site, trials, place, length, misreads=misreads)

    def test_by_hand(self):
        site = Site.plain(1, 50, 0)
        trials = [reached(0, 12), missed(0, 4)]
        self.assertEqual([sure_foot(site, trials, 0, length) for length in (11, 12, 13, 15)], [-1, 0, 5, 9])
        self.assertEqual([never_foot(site, trials, 0, length) for length in (4, 5, 13)], [0, 1, 13])
        self.assertEqual([sure_foot(site, trials, 0, 13, misreads=1), never_foot(site, trials, 0, 13, misreads=1)], [-1, 14])

    def test_feet_at_height_zero(self):
        # From a foot beyond the length the ladder reaches -1, which is less than every height.
        site = Site([("a", 0, 0, ())])
        for length in (0, 1, 7, HUGE):
            self.assertEqual(sure_foot(site, [], 0, length), length)
            self.assertEqual(never_foot(site, [], 0, length), length + 1)

    def test_names_of_arguments(self):
        site, trials = Site.plain(1, 50, 0), (reached(0, 12), missed(0, 4))
        self.assertEqual(sure_foot(length=13, misreads=0, place=0, trials=trials, site=site), 5)
        self.assertEqual(never_foot(length=13, misreads=0, place=0, trials=trials, site=site), 13)
        for call in (sure_foot, never_foot):
            with self.assertRaises(TypeError):
                call(site, trials, 0, 13, 0)


class ShortestSureTest(ErrorChecks):
    def check_rack(self, site, trials, place, rack, foot, misreads, most):
        """Check against the lengths of the rack, one by one."""
        names = shortest_sure(site, trials, place, rack, foot=foot, misreads=misreads, most=most)
        self.assertIs(names.__class__, list)
        for length in rack.lengths(most):
            if within(site, trials, place, reach(length, foot), misreads=misreads) == "surely":
                self.assertEqual(names, rack.names_for(length, most))
                return len(names)
        self.assertEqual(names, [])
        return 0

    def test_drawn_lists(self):
        draw = random.Random(239)
        found = []
        racks = [RACK, Rack(), Rack(ash=4), Rack(ash=1, birch=1), Rack(ash=2, birch=2, cedar=3, oak=0, pine=4)]
        for at in range(60):
            walls, links, shapes = small_site(draw, 3, 9, at % 3)
            trials = drawn_trials(draw, len(shapes[0]), draw.randint(0, 4), 9)
            site, place = Site(walls, links), draw.randrange(len(shapes[0]))
            for misreads in (0, 1):
                if not allowed(shapes, trials, misreads):
                    self.assert_no_shape(
                        shapes, trials, shortest_sure, site, trials, place, RACK, misreads=misreads, most=2)
                    continue
                for rack in racks:
                    for foot in (0, 2, 5, 99):
                        for most in (-1, 0, 1, 2, 3, 8, 99):
                            found.append(self.check_rack(site, trials, place, rack, foot, misreads, most))
        for count in range(4):
            self.assertGreater(found.count(count), 20)

    def test_by_hand(self):
        site = Site.plain(1, 50, 0)
        trials = [reached(0, 6)]
        self.assertEqual(shortest_sure(site, trials, 0, RACK), ["cedar"])
        # The foot that is left out is 0: from the foot 1 the ladder reaches 6.
        self.assertEqual(shortest_sure(site, [reached(0, 7)], 0, RACK), ["cedar"])
        self.assertEqual(shortest_sure(site, [reached(0, 7)], 0, RACK, foot=1), [])
        self.assertEqual(shortest_sure(site, trials, 0, RACK, most=1, foot=0), ["cedar"])
        self.assertEqual(shortest_sure(site, trials, 0, RACK, foot=4), [])
        self.assertEqual(shortest_sure(site, trials, 0, RACK, foot=4, most=2), ["birch", "cedar"])
        self.assertEqual(shortest_sure(site, trials, 0, RACK, foot=12, most=2), [])
        self.assertEqual(shortest_sure(site, trials, 0, RACK, foot=11, most=3), ["ash", "birch", "cedar"])
        self.assertEqual(shortest_sure(site, trials, 0, RACK, most=0), [])
        self.assertEqual(shortest_sure(site, trials, 0, RACK, most=-HUGE), [])
        self.assertEqual(shortest_sure(site, trials, 0, RACK, foot=HUGE, most=4), [])
        self.assertEqual(shortest_sure(site, trials, 0, RACK, most=2, misreads=1), [])

    def test_rack_is_left_as_it_is(self):
        site, rack = Site.plain(1, 50, 0), Rack(ash=5, birch=3)
        shortest_sure(site, [reached(0, 6)], 0, rack, most=2).append("cedar")
        self.assertEqual((rack.names(), rack.lengths(2)), (["ash", "birch"], [3, 5, 7]))

    def test_names_of_arguments(self):
        site = Site.plain(1, 50, 0)
        told = {"most": 2, "rack": RACK, "foot": 4, "place": 0, "misreads": 0, "trials": (reached(0, 6),), "site": site}
        self.assertEqual(shortest_sure(**told), ["birch", "cedar"])
        with self.assertRaises(TypeError):
            shortest_sure(site, [], 0, RACK, 0)


class OrderTest(ErrorChecks):
    def test_places_and_allowance_come_first(self):
        site = Site(WALLS, LINKS)
        alone, good = reached(0, -1), reached(1, 3)
        for place in (-HUGE, -2, -1, 3, HUGE):
            for trials in ([reached(place, 3), missed(9, 4)], (alone, good, missed(place, 4))):
                for call in asked(site, trials, 7, misreads=-1):
                    self.assert_raises(NoPlace, place, call)
            for call in asked(site, [alone], place, misreads=-1):
                self.assert_raises(NoPlace, place, call)
            for call in asked(site, [alone, good], place):
                self.assert_raises(NoPlace, place, call)
        for misreads in (-1, -7, -HUGE):
            for trials in ([], [alone], [good]):
                for call in asked(site, trials, 2, misreads=misreads):
                    self.assert_raises(BadNumber, misreads, call)

    def test_lengths_and_feet(self):
        site = Site(WALLS, LINKS)
        alone = [reached(0, -1)]
        for number in (-1, -2, -HUGE):
            for trials, misreads in [([], 0), (alone, 0), (alone, 1)]:
                for call in (sure_foot, never_foot):
                    self.assert_raises(BadNumber, number, call, site, trials, 0, number, misreads=misreads)
                    self.assert_raises(BadNumber, -9, call, site, trials, 0, number, misreads=-9)
                    self.assert_raises(NoPlace, 3, call, site, trials, 3, number, misreads=misreads)
                    self.assert_raises(NoPlace, -4, call, site, [missed(-4, 3)], 0, number)
                for rack in (RACK, Rack()):
                    told = {"foot": number, "most": 2}
                    self.assert_raises(BadNumber, number, shortest_sure, site, trials, 0, rack, misreads=misreads, **told)
                    self.assert_raises(BadNumber, -9, shortest_sure, site, trials, 0, rack, misreads=-9, **told)
                    self.assert_raises(NoPlace, 3, shortest_sure, site, trials, 3, rack, misreads=misreads, **told)

    def test_no_shape_comes_last(self):
        site, shapes = Site(WALLS, LINKS), shapes_of(WALLS, LINKS)
        for trials in (
            [reached(0, -1)],
            [reached(2, 4), missed(2, 4)],
            [reached(0, 3), missed(1, 5), missed(0, 8), reached(1, 2), missed(0, 3), missed(2, 9)],
        ):
            fewest = fewest_of(shapes, trials)
            for misreads in range(fewest + 1):
                for call in asked(site, trials, 1, misreads=misreads)[1:]:
                    if misreads < fewest:
                        self.assert_no_shape(shapes, trials, call)
                    else:
                        call()
                if misreads < fewest:
                    for rack, most in [(Rack(), 1), (RACK, 0), (RACK, 3)]:
                        with self.assertRaises(NoShape):
                            shortest_sure(site, trials, 1, rack, foot=HUGE, misreads=misreads, most=most)


if __name__ == "__main__":
    unittest.main()
