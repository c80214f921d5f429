"""Points [14] and [18] to [20]: blames, the fewest misread trials, and trust."""

import random
import unittest
from itertools import combinations

from samples import (
    HUGE,
    ErrorChecks,
    agreeing,
    drawn_trials,
    has_shape,
    is_shape,
    large_site,
    misreads_of,
    missed,
    reached,
    shapes_of,
    small_site,
    time_limit,
    told_of,
    trials_about,
)

from rungbounds.errors import BadNumber, NoPlace, NoShape
from rungbounds.misread import best_shape, fewest_misread, find_blames, find_suspects, trust
from rungbounds.sites import Site

FOUR = (fewest_misread, find_blames, find_suspects, best_shape)


def fewest_by_sets(shapes, trials):
    """Try all sets of trials: the least one for which a shape agrees with all others."""
    for count in range(len(trials) + 1):
        for chosen in combinations(range(len(trials)), count):
            if agreeing(shapes, [trial for at, trial in enumerate(trials) if at not in chosen]):
                return count
    return None


class MisreadChecks(ErrorChecks):
    def check_four(self, walls, links, shapes, trials, sure):
        """Check the four functions against a listing; return the fewest."""
        site = Site(walls, links)
        told = {"sure": sure} if sure else {}
        left = agreeing(shapes, sure)
        if not left:
            self.assertEqual([call(site, trials, **told) for call in FOUR], [None] * 4)
            return None
        misread = [misreads_of(trials, heights) for heights in left]
        fewest = fewest_misread(site, trials, **told)
        self.assertIs(fewest.__class__, int)
        self.assertEqual(fewest, min(len(numbers) for numbers in misread))
        blames = find_blames(site, trials, **told)
        self.assert_blames(left, trials, blames)
        self.assertEqual(len(blames), fewest)
        suspects = find_suspects(site, trials, **told)
        self.assertIs(suspects.__class__, list)
        self.assertEqual(len(suspects), fewest)
        self.assertIn(suspects, misread)
        heights = best_shape(site, trials, **told)
        self.assertIs(heights.__class__, list)
        self.assertIn(heights, left)
        self.assertEqual(len(misreads_of(trials, heights)), fewest)
        return fewest

    def check_listed(self, walls, links, trials, sure=()):
        return self.check_four(walls, links, shapes_of(walls, links), trials, sure)


class FewestTest(MisreadChecks):
    def test_examples(self):
        site = Site.plain(3, 20, 2)
        trials = [missed(0, 9), reached(2, 5), reached(1, 3)]
        self.assertEqual(fewest_misread(site, trials), 1)
        self.assertEqual(find_suspects(site, trials), [0])

    def test_drawn_lists(self):
        draw = random.Random(61)
        found = []
        for at in range(400):
            walls, links, shapes = small_site(draw, 4, 4, 0 if at % 2 else 3)
            trials = drawn_trials(draw, len(shapes[0]), draw.randint(0, 8), 4)
            with self.subTest(walls=walls, links=links, trials=[str(trial) for trial in trials]):
                found.append(self.check_four(walls, links, shapes, trials, ()))
                self.assertEqual(found[-1], fewest_by_sets(shapes, trials))
        for fewest in range(5):
            self.assertGreater(found.count(fewest), 10)
        self.assertNotIn(None, found)

    def test_drawn_lists_with_sure(self):
        draw = random.Random(67)
        found = []
        for at in range(400):
            walls, links, shapes = small_site(draw, 4, 5, 0 if at % 2 else 3)
            trials = drawn_trials(draw, len(shapes[0]), draw.randint(0, 7), 5)
            sure = drawn_trials(draw, len(shapes[0]), draw.randint(1, 4), 5)
            given = tuple(sure) if at % 3 else sure
            with self.subTest(walls=walls, links=links, trials=[str(trial) for trial in trials], sure=sure):
                found.append(self.check_four(walls, links, shapes, trials if at % 5 else tuple(trials), given))
                if found[-1] is not None:
                    self.assertEqual(found[-1], fewest_by_sets(agreeing(shapes, sure), trials))
        for fewest in (None, 0, 1, 2, 3, 4):
            self.assertGreater(found.count(fewest), 4)

    def test_drawn_lists_at_odds_two_by_two(self):
        # Each trial can be right by itself: all blames are pairs, and their choice matters.
        draw = random.Random(71)
        found = []
        for _ in range(150):
            walls, links, shapes = small_site(draw, 3, 6, 2)
            trials = drawn_trials(draw, len(shapes[0]), 14, 6)
            trials = [trial for trial in trials if agreeing(shapes, [trial])][:10]
            with self.subTest(walls=walls, links=links, trials=[str(trial) for trial in trials]):
                found.append(self.check_four(walls, links, shapes, trials, ()))
                blames = find_blames(Site(walls, links), trials)
                self.assertTrue(all(len(blame) == 2 for blame in blames))
        self.assertGreater(sum(fewest >= 3 for fewest in found), 20)

    def test_choice_of_pairs(self):
        # The trial missed at 15 is at odds with both reached ones, that missed at 5 with one.
        walls = [("a", 20, 0, ())]
        for trials in (
            [missed(0, 15), missed(0, 5), reached(0, 3), reached(0, 10)],
            [missed(0, 15), missed(0, 5), reached(0, 10), reached(0, 3)],
            [reached(0, 3), missed(0, 5), reached(0, 10), missed(0, 15)],
        ):
            self.assertEqual(self.check_listed(walls, [], trials), 2)

    def test_choice_of_pairs_along_a_way(self):
        # At each place a pair of its own; the next place lies higher by 1, so that trials
        # of neighbouring places are at odds as well.
        walls = [(name, 9, 0, ()) for name in "abcd"]
        links = [(0, 1, 1, 1), (1, 2, 1, 1), (2, 3, 1, 1)]
        for high, low in [(5, 4), (4, 4), (4, 5), (3, 6)]:
            trials = [missed(place, high) for place in range(4)] + [reached(place, low) for place in (3, 0, 2, 1)]
            self.check_listed(walls, links, trials)
            self.check_listed(walls, links, trials[::-1])

    def test_single_trials_at_the_limits(self):
        walls, links = [("a", 6, 1, (1,)), ("b", 6, 6, ())], [(0, 2, 2, 9)]
        site = Site(walls, links)
        for place in range(3):
            least, greatest = -site.limit(place, -1), site.limit(-1, place)
            for trial, fewest in [
                (reached(place, least), 0),
                (reached(place, least - 1), 1),
                (missed(place, greatest - 1), 0),
                (missed(place, greatest), 1),
                (reached(place, -1), 1),
                (reached(place, -7), 1),
                (missed(place, -1), 0),
                (missed(place, -7), 0),
                (missed(place, 30), 1),
                (reached(place, 30), 0),
            ]:
                self.assertEqual(self.check_listed(walls, links, [trial]), fewest)
                self.assertEqual(find_blames(site, [trial]), [(0,)] * fewest)
                self.assertEqual(find_suspects(site, [trial]), [0] * fewest)

    def test_pairs_at_the_limits(self):
        walls, links = [("a", 9, 2, (1,)), ("b", 9, 9, ())], [(1, 2, -1, 2)]
        for first in range(3):
            for second in range(3):
                for rise in range(-5, 6):
                    trials = [reached(first, 4), missed(second, 4 + rise)]
                    fewest = self.check_listed(walls, links, trials)
                    site = Site(walls, links)
                    if 4 + rise < site.limit(-1, second):
                        self.assertEqual(fewest, int(rise >= site.limit(first, second)))
                        self.assertEqual(find_blames(site, trials), [(1, 0)] * fewest)

    def test_blame_of_a_pair_is_missed_and_then_reached(self):
        site = Site.plain(1, 9, 0)
        self.assertEqual(find_blames(site, [missed(0, 5), reached(0, 5)]), [(0, 1)])
        self.assertEqual(find_blames(site, [reached(0, 5), missed(0, 5)]), [(1, 0)])

    def test_trial_and_its_opposite(self):
        walls = [("a", 9, 1, (1,))]
        for trial in (reached(0, 4), missed(1, 0), reached(1, 8), missed(0, 8)):
            self.assertEqual(self.check_listed(walls, [], [trial, ~trial]), 1)
            self.assertEqual(self.check_listed(walls, [], [trial, ~trial, trial, ~trial]), 2)
            self.assertEqual(self.check_listed(walls, [], [trial, ~trial], [trial]), 1)
            self.assertEqual(find_suspects(Site(walls), [trial, ~trial], sure=[trial]), [1])
            self.assertEqual(find_blames(Site(walls), [~trial], sure=[trial]), [(0,)])
            self.assertIsNone(self.check_listed(walls, [], [trial], [trial, ~trial]))

    def test_equal_trials_count_separately(self):
        walls = [("a", 9, 1, ())]
        twice = reached(0, 3)
        for many, others in [(1, 1), (3, 2), (2, 3), (4, 4), (5, 1), (1, 6)]:
            trials = [twice] * many + [missed(0, 3) for _ in range(others)]
            self.assertEqual(self.check_listed(walls, [], trials), min(many, others))
        self.assertEqual(find_suspects(Site(walls), [twice, ~twice, twice, twice, ~twice]), [1, 4])
        self.assertEqual(find_suspects(Site(walls), [twice, ~twice, ~twice, twice, ~twice]), [0, 3])
        alone = [reached(0, -1), reached(0, -1), missed(0, 9), missed(0, 9)]
        self.assertEqual(self.check_listed(walls, [], alone), 4)
        self.assertEqual(find_suspects(Site(walls), alone), [0, 1, 2, 3])

    def test_empty_list(self):
        for walls in ([], [("a", 3, 1, (1, 1))]):
            self.assertEqual(self.check_listed(walls, [], []), 0)
            self.assertEqual(self.check_listed(walls, [], ()), 0)
            site = Site(walls)
            self.assertEqual([find_blames(site, []), find_suspects(site, [])], [[], []])
            self.assertEqual([find_blames(site, [], sure=[]), find_suspects(site, (), sure=())], [[], []])
        self.assertIsNone(self.check_listed([("a", 3, 1, ())], [], [], [missed(0, 3)]))

    def test_site_without_walls(self):
        site = Site([])
        self.assertEqual([call(site, []) for call in FOUR], [0, [], [], []])
        self.assertEqual([call(site, (), sure=[]) for call in FOUR], [0, [], [], []])
        for place in (-1, 0, 1):
            self.assert_all_raise(NoPlace, place, FOUR, site, [reached(place, 3)])
            self.assert_all_raise(NoPlace, place, FOUR, site, [], sure=[missed(place, 3)])


class SureTest(MisreadChecks):
    def test_left_out_list_or_tuple(self):
        site = Site.plain(2, 9, 1)
        trials = [reached(0, 3), missed(0, 6), reached(1, 5)]
        sure = [missed(1, 5)]
        self.assertEqual([fewest_misread(site, trials), find_suspects(site, trials)], [1, [1]])
        for given in (sure, tuple(sure)):
            self.assertEqual(fewest_misread(site, trials, sure=given), 2)
            self.assertEqual(find_suspects(site, trials, sure=given), [0, 2])
            self.assertEqual(sorted(number for *_, number in find_blames(site, trials, sure=given)), [0, 2])
            self.assertTrue(site.fits(best_shape(site, trials, sure=given)))
            self.assertGreater(best_shape(site, trials, sure=given)[1], 5)
        for given in ([], ()):
            self.assertEqual(find_suspects(site, tuple(trials), sure=given), [1])

    def test_sure_by_keyword_only(self):
        for call in FOUR:
            with self.assertRaises(TypeError):
                call(Site.plain(1, 5, 0), [], [])
            self.assertEqual(call(trials=[], site=Site([]), sure=[]), call(Site([]), []))

    def test_no_shape_agrees_with_sure(self):
        site = Site([("a", 9, 2, (1,)), ("b", 9, 9, ())], [(1, 2, 0, 3)])
        for sure in (
            [reached(0, -1)],
            [missed(2, 9)],
            [reached(1, 4), missed(1, 4)],
            [missed(0, 6), reached(2, 4)],
            [reached(0, 2), reached(1, 9), missed(2, 7)],
        ):
            for trials in ([], [reached(0, 2)], [reached(0, -1), missed(0, 5)], list(sure)):
                self.assertEqual([call(site, trials, sure=sure) for call in FOUR], [None] * 4)
                self.assertEqual([call(site, tuple(trials), sure=tuple(sure)) for call in FOUR], [None] * 4)
        self.assertEqual(fewest_misread(site, [], sure=[missed(0, 6), reached(2, 5)]), 0)
        self.assertEqual(fewest_misread(site, [], sure=[reached(0, 2), missed(2, 6)]), 0)

    def test_sure_trials_are_not_counted(self):
        site = Site.plain(1, 9, 0)
        self.assertEqual([call(site, [], sure=[reached(0, 4)]) for call in FOUR[:3]], [0, [], []])
        self.assertLessEqual(best_shape(site, [], sure=[reached(0, 4)])[0], 4)
        self.assertGreater(best_shape(site, [], sure=[missed(0, 4)])[0], 4)
        self.assertEqual(best_shape(site, [], sure=[missed(0, 4), reached(0, 5)]), [5])
        self.assertEqual(find_suspects(site, [reached(0, 4)] * 5, sure=[missed(0, 4)]), [0, 1, 2, 3, 4])


class ArgumentsTest(MisreadChecks):
    def test_places_of_trials_and_then_of_sure(self):
        for site in (Site.plain(3, 9, 2), Site([("a", 4, 1, (1,)), ("b", 5, 1, ())])):
            good, blamed = reached(2, 3), reached(0, -1)
            for place in (-HUGE, -2, -1, 3, 4, HUGE):
                for bad in (reached(place, 3), missed(place, 3)):
                    worse = reached(99, 3)
                    for trials in ([bad], [good, bad, worse], [blamed, blamed, bad, good]):
                        self.assert_all_raise(NoPlace, place, FOUR, site, trials)
                        self.assert_all_raise(NoPlace, place, FOUR, site, tuple(trials), sure=[worse])
                        self.assert_all_raise(NoPlace, place, FOUR, site, trials, sure=[blamed])
                        self.assert_all_raise(NoPlace, place, FOUR, site, [good], sure=trials)
                        self.assert_all_raise(NoPlace, place, FOUR, site, [], sure=tuple(trials))
                        self.assert_all_raise(NoPlace, 99, FOUR, site, [worse], sure=trials)

    def test_nothing_is_changed(self):
        site = Site.plain(2, 9, 1)
        trials = [reached(0, 3), missed(0, 6), reached(1, -1)]
        sure = [reached(0, 8)]
        kept = (list(trials), list(sure), [str(trial) for trial in trials + sure])
        for call in FOUR:
            first = call(site, trials, sure=sure)
            if first.__class__ is list:
                told = list(first)
                first.clear()
                self.assertEqual(call(site, trials, sure=sure), told)
        trust(site, trials, 0, misreads=2)
        self.assertEqual((trials, sure, [str(trial) for trial in trials + sure]), kept)


class SizeTest(MisreadChecks):
    """Lists of 40 trials at sites of 24 places and 40 links, with numbers of 40 digits."""

    def check_by_papers(self, walls, links, trials, sure):
        """Check that the papers themselves show the fewest; return it."""
        site, told = Site(walls, links), told_of(walls, links)
        blames = find_blames(site, trials, sure=sure)
        numbers = [number for blame in blames for number in blame]
        self.assertEqual(len(set(numbers)), len(numbers))
        for blame in blames:
            blamed = [trials[number] for number in blame]
            self.assertIn([trial.reached for trial in blamed], ([True], [False], [False, True]))
            self.assertFalse(has_shape(24, told, [*sure, *blamed]))
        heights = best_shape(site, trials, sure=sure)
        self.assertTrue(is_shape(walls, links, heights))
        self.assertEqual(misreads_of(sure, heights), [])
        self.assertEqual(len(misreads_of(trials, heights)), len(blames))
        suspects = find_suspects(site, trials, sure=sure)
        self.assertEqual((len(suspects), suspects), (len(blames), sorted(set(suspects))))
        judged = [~trial if at in suspects else trial for at, trial in enumerate(trials)]
        self.assertTrue(has_shape(24, told, [*sure, *judged]))
        self.assertEqual(fewest_misread(site, trials, sure=sure), len(blames))
        return len(blames)

    def test_forty_trials(self):
        draw = random.Random(73)
        with time_limit(120):
            for unit in (1, 50, 10**38, 10**38):
                for wrong in (0, 3, 10, 20, 40):
                    walls, links, heights = large_site(draw, unit)
                    trials = trials_about(draw, heights, 40, unit, wrong)
                    self.assertLessEqual(self.check_by_papers(walls, links, trials, []), wrong)
                    sure = trials_about(draw, heights, 5, unit, 0)
                    self.assertLessEqual(self.check_by_papers(walls, links, trials, sure), wrong)

    def test_forty_trials_in_twenty_pairs(self):
        unit = 10**38
        walls = [(name, HUGE, 2 * unit, (1,) * 5) for name in ("north", "east", "south", "west")]
        links = [(at % 24, (at + 7) % 24, -40 * unit - at, 40 * unit + at) for at in range(40)]
        with time_limit(60):
            for step in (1, 7, 19):
                high = [missed(at * 6 % 24, 50 * unit + at * step % 20 * unit // 2) for at in range(20)]
                low = [reached(at * 6 % 24, 31 * unit + at * unit // 2) for at in range(20)]
                trials = [trial for pair in zip(low, high) for trial in pair]
                self.assertEqual(self.check_by_papers(walls, links, trials, []), 20)
                self.check_by_papers(walls, links, high + low[::-1], [missed(0, 34 * unit)])
                self.check_by_papers(walls, links, low + high, [reached(6, 57 * unit)])

    def test_long_way_of_pairs(self):
        # The missed trial k is at odds with the reached trials 0 to k: the last one that is
        # put in moves all others.
        walls = [(name, HUGE, 0, (1,) * 5) for name in ("north", "east", "south", "west")]
        links = [(0, 6, 0, 0), (6, 12, 0, 0), (12, 18, 0, 0)] + [(0, 5, 0, 0)] * 37
        unit = 10**38
        high = [missed(at, (2 * at + 1) * unit) for at in range(20)]
        low = [reached(23 - at, 2 * at * unit) for at in range(20)]
        with time_limit(60):
            for trials in (high + low, high[::-1] + low, low + high, low[::-1] + high[::-1], high[::-1] + low[::-1]):
                self.assertEqual(self.check_by_papers(walls, links, trials, []), 20)
                self.assertEqual(self.check_by_papers(walls, links, trials[:-1], []), 19)
            self.assertEqual(self.check_by_papers(walls, links, high + low, [missed(0, 38 * unit)]), 20)

    def test_trust(self):
        draw = random.Random(79)
        walls, links, heights = large_site(draw, 10**38)
        trials = trials_about(draw, heights, 40, 10**38, 9)
        site = Site(walls, links)
        fewest = fewest_misread(site, trials)
        found = {}
        with time_limit(60):
            for misreads in (fewest, fewest + 1, fewest + 3, 40):
                for number in range(40):
                    rest = trials[:number] + trials[number + 1:]
                    right = fewest_misread(site, rest, sure=[trials[number]])
                    wrong = fewest_misread(site, rest, sure=[~trials[number]])
                    can_be = [right is not None and right <= misreads, wrong is not None and wrong < misreads]
                    told = {(True, False): "right", (False, True): "wrong", (True, True): "open"}[tuple(can_be)]
                    self.assertEqual(trust(site, trials, number, misreads=misreads), told)
                    found[told] = True
        self.assertEqual(sorted(found), ["open", "right", "wrong"])


class TrustTest(ErrorChecks):
    def verdict(self, left, trial):
        """Judge a trial by a listing of the shapes that are left."""
        wrong = [bool(misreads_of([trial], heights)) for heights in left]
        if not any(wrong):
            return "right"
        return "wrong" if all(wrong) else "open"

    def test_drawn_lists(self):
        draw = random.Random(83)
        found = []
        for at in range(150):
            walls, links, shapes = small_site(draw, 3, 5, at % 3)
            trials = drawn_trials(draw, len(shapes[0]), draw.randint(1, 6), 5)
            site = Site(walls, links)
            given = trials if at % 2 else tuple(trials)
            for misreads in range(len(trials) + 2):
                left = [heights for heights in shapes if len(misreads_of(trials, heights)) <= misreads]
                for number, trial in enumerate(trials):
                    with self.subTest(walls=walls, links=links, misreads=misreads, number=number):
                        if not left:
                            self.assert_no_shape(shapes, trials, trust, site, given, number, misreads=misreads)
                            found.append((None, misreads))
                            continue
                        verdict = trust(site, given, number, misreads=misreads)
                        self.assertEqual(verdict, self.verdict(left, trial))
                        found.append((verdict, misreads))
        for misreads in range(4):
            for verdict in ("right", "wrong", "open", None):
                if (verdict, misreads) not in (("wrong", 0), ("open", 0)):
                    self.assertGreater(found.count((verdict, misreads)), 5, (verdict, misreads))
        self.assertEqual(found.count(("wrong", 0)) + found.count(("open", 0)), 0)

    def test_by_hand(self):
        site = Site.plain(1, 20, 0)
        trials = [reached(0, 4), missed(0, 11), reached(0, 6)]
        self.assertEqual([trust(site, trials, at, misreads=1) for at in range(3)], ["right", "wrong", "right"])
        self.assertEqual([trust(site, trials, at, misreads=2) for at in range(3)], ["open", "open", "open"])
        trials = [reached(0, 4), missed(0, -1)]
        self.assertEqual([trust(site, trials, at, misreads=1) for at in range(2)], ["open", "right"])
        trials = [reached(0, -1), missed(0, 3)]
        self.assertEqual([trust(site, trials, at, misreads=1) for at in range(2)], ["wrong", "right"])

    def test_allowance_left_out_is_zero(self):
        site = Site.plain(2, 9, 1)
        self.assertEqual(trust(site, [reached(0, 4), missed(1, 4)], 1), "right")
        self.assertEqual(trust(site, [reached(0, 4), missed(1, 4)], 1, misreads=0), "right")
        self.assert_raises(NoShape, [(1, 0)], trust, site, [reached(0, 4), missed(0, 4)], 0)
        self.assertEqual(trust(site, [reached(0, 4), missed(0, 4)], 0, misreads=1), "open")
        self.assertEqual(trust(trials=[reached(0, 4)], number=0, misreads=1, site=site), "open")

    def test_allowance_by_keyword_only(self):
        with self.assertRaises(TypeError):
            trust(Site.plain(1, 5, 0), [reached(0, 3)], 0, 0)

    def test_equal_trials(self):
        site = Site.plain(1, 20, 0)
        trials = [reached(0, 4), reached(0, 4), missed(0, 4)]
        self.assertEqual([trust(site, trials, at, misreads=1) for at in range(3)], ["right", "right", "wrong"])
        self.assertEqual([trust(site, trials, at, misreads=2) for at in range(3)], ["open", "open", "open"])

    def test_long_allowance(self):
        self.assertEqual(trust(Site.plain(1, HUGE, 0), [reached(0, HUGE - 1)], 0, misreads=HUGE), "open")
        self.assertEqual(trust(Site.plain(1, HUGE, 0), [reached(0, HUGE)], 0, misreads=HUGE), "right")
        self.assertEqual(trust(Site.plain(1, HUGE, 0), [missed(0, HUGE)], 0, misreads=HUGE), "wrong")

    def test_order_of_errors(self):
        site = Site.plain(2, 9, 1)
        good, alone, bad = reached(1, 4), reached(0, -1), missed(2, 4)
        for place in (-HUGE, -1, 2, HUGE):
            for trials in ([missed(place, 4)], [alone, reached(place, 4), bad], (good, missed(place, 4), bad)):
                self.assert_raises(NoPlace, place, trust, site, trials, 0)
                self.assert_raises(NoPlace, place, trust, site, trials, -3, misreads=-1)
                self.assert_raises(NoPlace, place, trust, site, trials, 9, misreads=5)
        for misreads in (-1, -2, -HUGE):
            for number in (0, 1, 2, -7, HUGE):
                for trials in ([alone, alone], [good], []):
                    self.assert_raises(BadNumber, misreads, trust, site, trials, number, misreads=misreads)
        for trials in ([], [good], [alone, good], [alone] * 3):
            for number in (-HUGE, -2, -1, len(trials), len(trials) + 1, HUGE):
                for misreads in (0, 1, 5):
                    self.assert_raises(BadNumber, number, trust, site, trials, number, misreads=misreads)

    def test_no_shape_comes_last(self):
        walls = [("a", 9, 1, (1,))]
        site, shapes = Site(walls), shapes_of(walls, [])
        for trials in (
            [reached(0, -1)],
            [reached(0, -1), missed(1, 9), reached(0, 4)],
            [reached(0, 3), missed(1, 4), missed(0, 8), reached(1, 2), missed(0, 3)],
        ):
            fewest = fewest_misread(site, trials)
            for misreads in range(fewest + 2):
                for number in range(len(trials)):
                    if misreads < fewest:
                        self.assert_no_shape(shapes, trials, trust, site, trials, number, misreads=misreads)
                    else:
                        self.assertIn(trust(site, trials, number, misreads=misreads), ("right", "wrong", "open"))


if __name__ == "__main__":
    unittest.main()
