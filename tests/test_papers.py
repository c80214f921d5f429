"""Point [33]: the functions that check papers."""

import random
import unittest
from itertools import product

from samples import (
    HUGE,
    ErrorChecks,
    StateListing,
    agreeing,
    allowed,
    drawn_game,
    drawn_trials,
    fewest_of,
    is_shape,
    large_site,
    misreads_of,
    missed,
    reached,
    rows_of,
    shapes_of,
    small_site,
    sum_of,
    time_limit,
    told_of,
    trials_about,
    wide_site,
)

from rungbounds.errors import BadNumber, NoPlace, TooMany
from rungbounds.misread import best_shape, fewest_misread, find_blames
from rungbounds.papers import (
    chain_sum,
    check_blames,
    check_height,
    check_plan,
    check_shape,
    check_stall,
    check_twins,
    height_paper,
)
from rungbounds.plans import Planner
from rungbounds.sites import Site
from rungbounds.trials import pinned
from rungbounds.wishes import AllWithin, Band, Wish

WALLS = [("a", 9, 2, (1,)), ("b", 9, 9, ())]
LINKS = [(1, 2, 0, 3)]


class ChainSumTest(ErrorChecks):
    def test_by_hand(self):
        site = Site(WALLS, LINKS)
        self.assertEqual(chain_sum(site, [-1, 0, 1, 2, -1]), 9 + 2 + 3 + 0)
        self.assertEqual(chain_sum(site, [2, 1]), 0)
        self.assertEqual(chain_sum(site, [1, 2]), 3)
        self.assertEqual(chain_sum(site, [0, 1, 0, 1, 0]), 8)
        self.assertEqual(chain_sum(chain=(0, -1, 0), site=site), 9)

    def test_against_told_limits(self):
        draw = random.Random(601)
        found = []
        for at in range(60):
            walls, links, shapes = small_site(draw, 4, 5, at % 4)
            site, told = Site(walls, links), told_of(walls, links)
            for _ in range(30):
                chain = [draw.randrange(-1, site.size) for _ in range(draw.randint(0, 5))]
                known = all(pair in told for pair in zip(chain, chain[1:]))
                self.assertEqual(chain_sum(site, chain), sum_of(told, chain) if known else None)
                found.append(known)
        self.assertGreater(found.count(True), 100)
        self.assertGreater(found.count(False), 100)

    def test_missing_limits(self):
        site = Site(WALLS, LINKS)
        for chain in ([0, 2], [2, 0], [0, 0], [-1, -1], [-1, 0, 2], [-1, 1, 1, 2], [0, 2, 1]):
            self.assertIsNone(chain_sum(site, chain))

    def test_fewer_than_two_nodes(self):
        site = Site(WALLS, LINKS)
        for chain in ([], [-1], [0], [2], (), (1,)):
            self.assertEqual(chain_sum(site, chain), 0)
        self.assertEqual((chain_sum(Site([]), []), chain_sum(Site([]), [-1])), (0, 0))

    def test_a_limit_of_zero_is_one(self):
        self.assertEqual(chain_sum(Site([("a", 0, 0, (1,))]), [0, 1, -1, 0]), 0)

    def test_numbers_that_are_no_node(self):
        site = Site(WALLS, LINKS)
        for node in (-HUGE, -3, -2, 3, 4, HUGE):
            for chain in ([node], [0, node], [node, 0], [0, 2, node], [0, 0, 1, node, 99], [node, 77], [-1, 0, 1, 2, node]):
                self.assert_raises(NoPlace, node, chain_sum, site, chain)
        self.assert_raises(NoPlace, 0, chain_sum, Site([]), [-1, 0])

    def test_long_numbers(self):
        site = Site([("a", HUGE, HUGE, (HUGE,))])
        self.assertEqual(chain_sum(site, [0, 1, 0]), 2 * HUGE * HUGE)


class CheckShapeTest(ErrorChecks):
    def test_drawn_lists(self):
        draw = random.Random(607)
        found = []
        for at in range(150):
            walls, links, shapes = small_site(draw, 3, 5, at % 3)
            site = Site(walls, links)
            trials = drawn_trials(draw, site.size, draw.randint(0, 4), 5)
            sure = drawn_trials(draw, site.size, draw.choice([0, 0, 1, 2]), 5)
            told = {"sure": sure if at % 2 else tuple(sure)} if sure else {}
            for misreads in range(3):
                left = allowed(agreeing(shapes, sure), trials, misreads)
                for _ in range(12):
                    heights = [draw.randint(-1, 6) for _ in range(site.size)]
                    heights = draw.choice([heights, draw.choice(shapes)])
                    right = check_shape(site, trials, heights, misreads=misreads, **told)
                    self.assertIs(right, heights in left)
                    found.append((right, bool(sure), misreads))
        for told in product((True, False), (True, False), range(3)):
            self.assertGreater(found.count(told), 50)

    def test_by_hand(self):
        site = Site.plain(2, 9, 2)
        trials = [reached(0, 4), missed(1, 4)]
        self.assertIs(check_shape(site, trials, [4, 5]), True)
        self.assertIs(check_shape(site, trials, [4, 4]), False)
        self.assertIs(check_shape(site, trials, [4, 4], misreads=1), True)
        self.assertIs(check_shape(site, trials, [5, 4], misreads=1), False)
        self.assertIs(check_shape(site, trials, [5, 4], misreads=2), True)
        self.assertIs(check_shape(site, trials, [5, 4], misreads=HUGE, sure=[missed(0, 5)]), False)
        self.assertIs(check_shape(site, trials, [4, 7], misreads=2), False)
        self.assertIs(check_shape(site, trials, [4, 5], sure=trials), True)
        self.assertIs(check_shape(sure=(), misreads=0, heights=[4, 5], trials=tuple(trials), site=site), True)

    def test_lists_of_another_length(self):
        site = Site.plain(2, 9, 2)
        for heights in ([], [0], [0, 0, 0], [0] * 30):
            for trials in ([], [reached(1, 4)]):
                self.assertIs(check_shape(site, trials, heights), False)
                self.assertIs(check_shape(site, trials, heights, misreads=9, sure=trials), False)
        self.assertIs(check_shape(Site([]), [], []), True)
        self.assertIs(check_shape(Site([]), [], [0]), False)

    def test_order_of_errors(self):
        site = Site(WALLS, LINKS)
        for place in (-HUGE, -1, 3, HUGE):
            worse = reached(place, 4)
            for heights in ([0, 0, 0], [], [-1, 0, 0]):
                for trials in ([worse, missed(9, 9)], (reached(0, -1), worse)):
                    self.assert_raises(NoPlace, place, check_shape, site, trials, heights, misreads=-1, sure=[missed(8, 8)])
                    self.assert_raises(NoPlace, place, check_shape, site, [], heights, misreads=-1, sure=trials)
        for misreads in (-1, -HUGE):
            for heights in ([0, 0, 0], [], [-1, 0, 0]):
                self.assert_raises(BadNumber, misreads, check_shape, site, [], heights, misreads=misreads)


class CheckBlamesTest(ErrorChecks):
    def is_right(self, shapes, trials, blames):
        """Check blames by the words of points [18] and [33] and a listing of shapes."""
        numbers = [number for blame in blames for number in blame]
        if len(set(numbers)) != len(numbers) or any(not 0 <= number < len(trials) for number in numbers):
            return False
        for blame in blames:
            blamed = [trials[number] for number in blame]
            if [trial.reached for trial in blamed] not in ([True], [False], [False, True]):
                return False
            if agreeing(shapes, blamed):
                return False
        return True

    def test_every_tuple(self):
        draw = random.Random(613)
        found = []
        for at in range(120):
            walls, links, shapes = small_site(draw, 3, 5, at % 3)
            site = Site(walls, links)
            trials = drawn_trials(draw, site.size, draw.randint(0, 5), 5)
            sure = drawn_trials(draw, site.size, draw.choice([0, 0, 1, 3]), 5)
            told = {"sure": sure if at % 2 else tuple(sure)} if sure else {}
            left = agreeing(shapes, sure)
            numbers = range(-1, len(trials) + 1)
            for blame in [(), *product(numbers), *product(numbers, repeat=2)]:
                right = check_blames(site, trials, [blame], **told)
                self.assertIs(right, blame != () and self.is_right(left, trials, [blame]))
                found.append((right, len(blame), bool(left)))
        for told in product((True, False), (1, 2), (True, False)):
            self.assertGreater(found.count(told), 30, told)

    def test_drawn_lists_of_tuples(self):
        draw = random.Random(617)
        found = []
        for at in range(150):
            walls, links, shapes = small_site(draw, 3, 5, at % 3)
            site = Site(walls, links)
            trials = drawn_trials(draw, site.size, draw.randint(2, 8), 5)
            sure = drawn_trials(draw, site.size, at % 2, 5)
            left = agreeing(shapes, sure)
            numbers = range(len(trials))
            good = [blame for blame in [*product(numbers), *product(numbers, repeat=2)] if self.is_right(left, trials, [blame])]
            for _ in range(10):
                blames = draw.sample(good, min(len(good), draw.randint(0, 3)))
                if draw.random() < 0.2:
                    blames.append(draw.choice([(0,), (0, 1), (1, 0), (len(trials),), (-1,)]))
                right = check_blames(site, trials, blames, sure=sure)
                self.assertIs(right, self.is_right(left, trials, blames))
                found.append((right, len(blames)))
            blames = find_blames(site, trials, sure=sure)
            if blames is not None:
                self.assertIs(check_blames(site, trials, blames, sure=sure), True)
        for told in product((True, False), (1, 2)):
            self.assertGreater(found.count(told), 30, told)

    def test_by_hand(self):
        site = Site.plain(1, 9, 0)
        trials = [missed(0, 6), reached(0, 3), reached(0, -1), missed(0, 9), reached(0, 4), missed(0, 4)]
        for blames in ([], [(2,)], [(3,)], [(0, 1)], [(0, 4), (5, 1)], [(2,), (3,), (0, 1), (5, 4)], [(3, 2)], [(0, 2), (3, 1)]):
            self.assertIs(check_blames(site, trials, blames), True)
        for blames in (
            [(0,)], [(1,)], [(1, 0)], [(0, 5)], [(1, 4)], [(0, 0)], [()], [(0, 1), ()], [(0, 1, 5)], [(2, 3)], [(2, 3, 0)],
            [(6,)], [(-1,)], [(-4,)], [(0, 6)], [(0, -5)], [(HUGE,)], [(0, HUGE)], [(2,), (2,)], [(0, 1), (0, 4)],
            [(0, 1), (5, 1)], [(2,), (0, 2)], [(3, 2), (3,)], [(2,), (0,)], [(0,), (2,)],
        ):
            self.assertIs(check_blames(site, trials, blames), False, blames)
        self.assertIs(check_blames(blames=[(0, 1)], trials=tuple(trials), site=site), True)

    def test_no_shape_agrees_with_sure(self):
        site = Site.plain(1, 9, 0)
        trials = [missed(0, 2), reached(0, 7), reached(0, 8), missed(0, 1)]
        for sure in ([reached(0, -1)], (missed(0, 4), reached(0, 4))):
            for blames in ([(0,)], [(1,)], [(0, 1)], [(3, 2), (0, 1)], [(0,), (1,), (2,), (3,)], []):
                self.assertIs(check_blames(site, trials, blames, sure=sure), True)
            for blames in ([()], [(1, 0)], [(1, 2)], [(0, 3)], [(0, 1, 2)], [(4,)], [(-1,)], [(0, 4)], [(0,), (0, 1)]):
                self.assertIs(check_blames(site, trials, blames, sure=sure), False)
        self.assertIs(check_blames(site, trials, [(0,)]), False)

    def test_sure_can_make_blames(self):
        site = Site.plain(1, 9, 0)
        trials = [missed(0, 2), reached(0, 7)]
        self.assertIs(check_blames(site, trials, [(0,)], sure=[reached(0, 2)]), True)
        self.assertIs(check_blames(site, trials, [(0,)], sure=[reached(0, 3)]), False)
        self.assertIs(check_blames(site, trials, [(0, 1)], sure=[reached(0, 2)]), True)
        self.assertIs(check_blames(site, trials, [(0, 1)], sure=[reached(0, 3)]), False)

    def test_order_of_errors(self):
        site = Site(WALLS, LINKS)
        for place in (-HUGE, -1, 3, HUGE):
            worse = reached(place, 4)
            for blames in ([], [(0,)], [()], [(7, 8, 9)]):
                for trials in ([worse, missed(9, 9)], (reached(0, -1), worse)):
                    self.assert_raises(NoPlace, place, check_blames, site, trials, blames, sure=[missed(8, 8)])
                    self.assert_raises(NoPlace, place, check_blames, site, [], blames, sure=trials)

    def test_arguments_are_left(self):
        trials, blames, sure = [missed(0, 6), reached(0, 3)], [(0, 1)], [reached(0, 8)]
        self.assertTrue(check_blames(Site.plain(1, 9, 0), trials, blames, sure=sure))
        self.assertEqual((rows_of(trials), blames, rows_of(sure)), ([(0, 6, False), (0, 3, True)], [(0, 1)], [(0, 8, True)]))


class HeightPaperTest(ErrorChecks):
    def assert_paper(self, walls, links, trials, place, height, misreads, possible):
        """Check the paper by itself and with check_height; return its word."""
        site, told = Site(walls, links), told_of(walls, links)
        given = {"misreads": misreads} if misreads else {}
        paper = height_paper(site, trials, place, height, **given)
        self.assertIs(paper.__class__, tuple)
        word, rows = paper
        self.assertIs(rows.__class__, list)
        if word == "shape":
            self.assertTrue(possible and is_shape(walls, links, rows) and rows[place] == height)
            self.assertLessEqual(len(misreads_of(trials, rows)), misreads)
        elif word == "limit":
            self.assertEqual(sorted([rows[0], rows[-1]]), [-1, place])
            self.assertGreaterEqual(len(rows), 2)
            total = sum_of(told, rows)
            self.assertTrue(total < height if rows[0] == -1 else -total > height)
        else:
            self.assertEqual(word, "blames")
            self.assertTrue(-site.limit(place, -1) <= height <= site.limit(-1, place))
            self.assertGreater(len(rows), misreads)
            self.assertTrue(check_blames(site, trials, rows, sure=pinned(place, height)))
        verdict = check_height(site, trials, place, height, paper, **given)
        self.assertEqual(verdict, "possible" if possible else "impossible")
        return word

    def test_drawn_lists(self):
        draw = random.Random(619)
        words = []
        for at in range(100):
            walls, links, shapes = wide_site(draw, at % 3) if at % 2 else small_site(draw, 3, 5, at % 3)
            size = len(shapes[0])
            trials = drawn_trials(draw, size, draw.randint(0, 6), 8)
            given = trials if at % 3 else tuple(trials)
            for misreads in range(3):
                left = allowed(shapes, trials, misreads)
                for place in range(size):
                    known = {heights[place] for heights in left}
                    for height in range(-2, 12):
                        words.append(self.assert_paper(walls, links, given, place, height, misreads, height in known))
                        self.assertIs(words[-1] == "limit", height not in {heights[place] for heights in shapes})
        for word in ("shape", "limit", "blames"):
            self.assertGreater(words.count(word), 300)

    def test_large_sites(self):
        draw = random.Random(631)
        words = []
        with time_limit(100):
            for unit, wrong in [(20, 4), (10**38, 4), (10**38, 12)]:
                walls, links, heights = large_site(draw, unit)
                site = Site(walls, links)
                trials = trials_about(draw, heights, 40, unit, wrong)
                fewest = fewest_misread(site, trials)
                for place in draw.sample(range(24), 6):
                    for height in (-1, 0, heights[place], heights[place] + 2 * unit, site.limit(-1, place), HUGE):
                        for misreads in (0, fewest, fewest + 3):
                            few = fewest_misread(site, trials, sure=pinned(place, height))
                            possible = few is not None and few <= misreads
                            words.append(self.assert_paper(walls, links, trials, place, height, misreads, possible))
        self.assertEqual(sorted(set(words)), ["blames", "limit", "shape"])

    def test_more_blames_than_allowed_are_enough(self):
        site = Site.plain(1, 20, 0)
        trials = [reached(0, 4)] * 5
        word, blames = height_paper(site, trials, 0, 9, misreads=2)
        self.assertEqual(word, "blames")
        self.assertGreater(len(blames), 2)
        self.assertEqual(height_paper(site, trials, 0, 9, misreads=5), ("shape", [9]))
        self.assertEqual(height_paper(site, trials, 0, 21, misreads=5), ("limit", [-1, 0]))
        self.assertEqual(height_paper(site, trials, 0, -1), ("limit", [0, -1]))
        self.assertEqual(height_paper(misreads=1, height=3, place=0, trials=(), site=site), ("shape", [3]))


class CheckHeightTest(ErrorChecks):
    def assert_verdicts(self, verdict, papers, site, trials, place, height, **told):
        for paper in papers:
            self.assertEqual(check_height(site, trials, place, height, paper, **told), verdict, paper)

    def test_shapes(self):
        site = Site.plain(2, 9, 2)
        trials = [reached(0, 4), missed(1, 4)]
        good = [("shape", [4, 5]), ("shape", [4, 6])]
        self.assert_verdicts("possible", good, site, trials, 0, 4)
        self.assert_verdicts("possible", [*good, ("shape", [4, 2])], site, trials, 0, 4, misreads=1)
        bad = [("shape", [4, 4]), ("shape", [4, 2]), ("shape", [3, 5]), ("shape", [4, 7]), ("shape", [4]), ("shape", [])]
        bad += [("shape", [4, 5, 5]), ("shape", [5, 4]), ("shape", [4, -1]), ("shape", [4, 10])]
        self.assert_verdicts("wrong", bad, site, trials, 0, 4)
        self.assert_verdicts("wrong", [("shape", [4, 5])], site, trials, 0, 5, misreads=2)
        self.assert_verdicts("possible", [("shape", [4, 5])], site, trials, 1, 5)
        self.assert_verdicts("wrong", [("shape", [10, 9]), ("shape", [-1, 0])], site, trials, 0, 10, misreads=2)

    def test_chains(self):
        site = Site(WALLS, [(1, 2, 0, 3), (0, 2, -1, 1)])
        # From the ground to place 0 at most 9, from place 0 to the ground at least 0.
        good = [("limit", [-1, 0]), ("limit", [-1, 0, -1, 0]), ("limit", [-1, 1, 0]), ("limit", [-1, 0, 2, 0])]
        self.assert_verdicts("impossible", good, site, [], 0, 30)
        self.assert_verdicts("impossible", good[:1], site, [], 0, 10)
        self.assert_verdicts("wrong", good[1:], site, [], 0, 9)
        self.assert_verdicts("impossible", [("limit", [0, -1])], site, [], 0, -1)
        self.assert_verdicts("impossible", [("limit", [0, 2, 0, -1]), ("limit", [0, -1, 2, -1])], site, [], 0, -30)
        self.assert_verdicts("wrong", [("limit", [0, 2, 0, -1]), ("limit", [0, 1, -1])], site, [], 0, -2)
        bad = [[], [-1], [0], [-1, 1], [1, -1], [0, -1], [-1, 0, 1], [0, 0], [-1, -1], [-1, 0, 0], [-1, -1, 0], [0, -1, 0, 0]]
        bad += [[-1, 2, 7, 0], [-2, 0], [-1, 3], [-1, 0, 1, 2, 1, 0, 99], [0, -1, 1], [-1, 0, -1]]
        for height in (30, 10, 5):
            self.assert_verdicts("wrong", [("limit", chain) for chain in bad], site, [], 0, height)
            self.assert_verdicts("wrong", [("limit", [-1, 0])], site, [], 1, 9)
        for height in (-30, -1):
            self.assert_verdicts("wrong", [("limit", chain) for chain in bad if chain != [0, -1]], site, [], 0, height)
        self.assert_verdicts("wrong", [("limit", [-1, 0])], site, [], 0, -5)
        self.assert_verdicts("wrong", [("limit", [0, -1])], site, [], 0, 30)
        self.assert_verdicts("wrong", [("limit", [-1, 0]), ("limit", [0, -1])], site, [], 0, 4, misreads=3)

    def test_chains_at_each_limit(self):
        site = Site(WALLS, [(1, 2, 3, 4), (0, 2, 2, 6)])
        for place in range(3):
            up, down = ("limit", site.chain(-1, place)), ("limit", site.chain(place, -1))
            for height in range(-3, 13):
                over = height > site.limit(-1, place)
                under = height < -site.limit(place, -1)
                self.assert_verdicts("impossible" if over else "wrong", [up], site, [], place, height)
                self.assert_verdicts("impossible" if under else "wrong", [down], site, [], place, height, misreads=1)

    def test_blames(self):
        site = Site.plain(1, 20, 0)
        trials = [reached(0, 4), missed(0, 11), reached(0, 6), missed(0, 9)]
        good = [("blames", [(0,), (2,)]), ("blames", [(0,), (1,), (2,)]), ("blames", [(1, 0), (2,)])]
        self.assert_verdicts("impossible", good, site, trials, 0, 8, misreads=1)
        self.assert_verdicts("wrong", [good[0], good[2]], site, trials, 0, 8, misreads=2)
        self.assert_verdicts("impossible", [("blames", [(3,)]), ("blames", [(0,)])], site, trials, 0, 8)
        bad = [[], [(0,)], [(0,), (0,)], [(0, 1), (2,)], [(0,), (2,), ()], [(0,), (2,), (9,)], [(0,), (-1,)], [(1, 0), (0,)]]
        self.assert_verdicts("wrong", [("blames", blames) for blames in bad], site, trials, 0, 8, misreads=1)
        self.assert_verdicts("wrong", [("blames", [])], site, trials, 0, 8)
        self.assert_verdicts("wrong", [("blames", [(0,)])], site, trials, 0, 4)
        self.assert_verdicts("impossible", [("blames", [(1,)])], site, trials, 0, 4)

    def test_blames_for_a_height_that_no_shape_has(self):
        site = Site.plain(1, 20, 0)
        trials = [reached(0, 4), missed(0, 11), reached(0, 30)]
        for height in (-1, 21, HUGE, -HUGE):
            good = [[(0,)], [(1,)], [(2,)], [(1, 2)], [(1, 0), (2,)], [(0,), (1,), (2,)]]
            self.assert_verdicts("impossible", [("blames", blames) for blames in good], site, trials, 0, height)
            self.assert_verdicts("impossible", [("blames", good[4])], site, trials, 0, height, misreads=1)
            bad = [[], [()], [(0, 1)], [(2, 1)], [(0,), (0,)], [(3,)], [(-1,)], [(0,), (1, 2), (2,)], [(1, 0, 2)]]
            self.assert_verdicts("wrong", [("blames", blames) for blames in bad], site, trials, 0, height)
            self.assert_verdicts("wrong", [("blames", good[0]), ("blames", good[3])], site, trials, 0, height, misreads=1)

    def test_other_texts(self):
        site = Site.plain(1, 20, 0)
        for word in ("", "shapes", "Shape", "limits", "chain", "blame", "possible", "wrong", " limit"):
            for rows in ([], [4], [-1, 0], [0, -1]):
                self.assert_verdicts("wrong", [(word, rows)], site, [], 0, 4, misreads=1)
                self.assert_verdicts("wrong", [(word, rows)], site, [reached(0, 3)], 0, 40)

    def test_papers_under_another_word(self):
        site, trials = Site.plain(1, 20, 0), [reached(0, 4)]
        self.assert_verdicts("wrong", [("limit", [9]), ("limit", [-1, 0])], site, trials, 0, 9, misreads=1)
        self.assert_verdicts("wrong", [("shape", [-1, 0]), ("shape", [])], site, trials, 0, 21)
        self.assert_verdicts("wrong", [("shape", [0])], site, trials, 0, 9)

    def test_names_of_arguments(self):
        verdict = check_height(misreads=1, paper=("shape", [9]), height=9, place=0, trials=(reached(0, 4),), site=Site.plain(1, 20, 0))
        self.assertEqual(verdict, "possible")

    def test_order_of_errors(self):
        site = Site(WALLS, LINKS)
        for paper in (("shape", [0, 0, 0]), ("limit", [-1, 0]), ("blames", []), ("", []), ("limit", [99])):
            for place in (-HUGE, -1, 3, HUGE):
                for trials in ([reached(place, 4), missed(9, 9)], (reached(0, -1), missed(place, 4))):
                    self.assert_raises(NoPlace, place, check_height, site, trials, 7, 3, paper, misreads=-1)
                    self.assert_raises(NoPlace, place, height_paper, site, trials, 7, 3, misreads=-1)
                self.assert_raises(NoPlace, place, check_height, site, [reached(0, -1)], place, 3, paper, misreads=-1)
                self.assert_raises(NoPlace, place, height_paper, site, [reached(0, -1)], place, 3, misreads=-1)
            for misreads in (-1, -HUGE):
                self.assert_raises(BadNumber, misreads, check_height, site, [], 0, 3, paper, misreads=misreads)
                self.assert_raises(BadNumber, misreads, height_paper, site, [], 0, 30, misreads=misreads)


class GameChecks(ErrorChecks):
    def games(self, seed, count, most_entries=3):
        draw = random.Random(seed)
        for _ in range(count):
            walls, links, trials, wish, menu, misreads, listing = drawn_game(draw, most_entries)
            given = (Site(walls, links), trials if draw.random() < 0.5 else tuple(trials), wish, menu)
            told = {"misreads": misreads} if misreads else {}
            yield draw, given, told, listing


class CheckPlanTest(GameChecks):
    def drawn_plan(self, draw, listing, state, depth):
        """Draw what is mostly a plan of some kind."""
        answers = listing.answers(state)
        chance = draw.random()
        if chance < 0.03:
            return draw.choice([("settled", 1), ("settled", 0), ("impossible",), ("settled", 9), ("try", 0)])
        entries = list(listing.results(state))
        if entries and depth and (len(answers) > 1 or chance < 0.3):
            entry = draw.choice(entries) if chance < 0.97 else draw.randint(-1, len(state))
            results = listing.results(state).get(entry, [state, state])
            return ("try", entry, *[self.drawn_plan(draw, listing, result, depth - 1) for result in results])
        return ("settled", answers[0]) if answers else ("impossible",)

    def test_drawn_plans(self):
        found = []
        for draw, given, told, listing in self.games(641, 200):
            for _ in range(8):
                plan = self.drawn_plan(draw, listing, listing.start, 3)
                length = check_plan(*given, plan, **told)
                self.assertEqual(length, listing.plan_length(listing.start, plan))
                found.append(length)
        for length in (None, 0, 1, 2, 3):
            self.assertGreater(found.count(length), 30, length)

    def test_plans_of_planners(self):
        found = []
        for _, given, told, listing in self.games(643, 120):
            if listing.answers(listing.start):
                planner = Planner(*given, **told)
                plan = planner.plan()
                self.assertEqual(check_plan(*given, plan, **told), planner.fewest())
                found.append(plan and plan[0])
        for word in ("try", "settled", None):
            self.assertGreater(found.count(word), 10)

    def test_values_of_no_form(self):
        given = (Site.plain(1, 9, 0), [], Band(0, 4), [(0, 4), (0, 2)])
        good = ("try", 0, ("settled", 0), ("settled", 1))
        self.assertEqual(check_plan(*given, good), 1)
        for plan in (
            0, 7, -1, None, "", "settled", "impossible", "try", "settled0", (), ((),), (None,), (0,), ("",),
            ("settled",), ("settled", 0, 0), ("settled", 0, 1), ("settled", "0"), ("settled", None), ("settled", (0,)),
            ("impossible", 0), ("impossible", None), ("impossible", ()), (("impossible",),), ("Impossible",),
            ("try",), ("try", 0), ("try", 0, ("settled", 0)), (*good, ()), ("try", *good), (good,), ("", *good[1:]),
            ("try", None, *good[2:]), ("try", "0", *good[2:]), ("try", (0,), *good[2:]), ("try", (), *good[2:]),
            ("try", -1, *good[2:]), ("try", 2, *good[2:]), ("try", HUGE, *good[2:]), ("try", -2, *good[2:]),
            ("try", 0, None, good[3]), ("try", 0, good[2], 1), ("try", 0, "settled", "settled"), ("try", 0, (), ()),
            ("try", 0, good[3], good[2]), ("try", 0, good[2], ("impossible",)), ("try", 0, good[2], ("settled", 2)),
            ("try", 0, good, good[3]), ("try", 1, *good[2:]), ("settle", 0), (good[2], good[3]), (0, good[2], good[3], "try"),
        ):
            self.assertIsNone(check_plan(*given, plan), plan)

    def test_deep_values(self):
        plan = ("settled", 0)
        for _ in range(100000):
            plan = ("try", 0, plan, plan)
        self.assertIsNone(check_plan(Site.plain(1, 9, 0), [], Band(0, 4), [(0, 4)] * 6, plan))
        deep = ()
        for _ in range(100000):
            deep = (deep,)
        for plan in (deep, ("settled", deep), ("try", deep, deep, deep), ("impossible", deep), (deep, 0)):
            self.assertIsNone(check_plan(Site.plain(1, 9, 0), [], Band(0, 4), [(0, 4)] * 6, plan))
        while deep:
            deep = deep[0]

    def test_entries_tried_twice(self):
        given = (Site.plain(1, 9, 0), [], Band(0, 4), [(0, 2), (0, 4)])
        low, high = ("settled", 0), ("settled", 1)
        self.assertEqual(check_plan(*given, ("try", 0, low, ("try", 1, low, high))), 2)
        self.assertIsNone(check_plan(*given, ("try", 0, low, ("try", 0, low, high))))
        self.assertIsNone(check_plan(*given, ("try", 1, ("try", 1, low, high), high)))
        self.assertEqual(check_plan(*given, ("try", 1, ("try", 0, low, low), ("try", 0, ("impossible",), high))), 2)

    def test_third_form_at_settled_and_impossible_states(self):
        site, low, end = Site.plain(1, 9, 0), ("settled", 0), ("impossible",)
        given = (site, [], Band(0, 4), [(0, 4), (0, 2)])
        high = ("settled", 1)
        self.assertEqual(check_plan(*given, ("try", 0, ("try", 1, low, low), high)), 2)
        self.assertEqual(check_plan(*given, ("try", 0, low, ("try", 1, end, high))), 2)
        self.assertIsNone(check_plan(*given, ("try", 0, low, ("try", 1, high, high))))
        menu = [(0, 4), (0, 2), (0, 1)]
        tried = ("try", 1, ("try", 2, end, end), high)
        self.assertEqual(check_plan(site, [], Band(0, 4), menu, ("try", 0, low, tried)), 3)
        settled = (site, [reached(0, 4)], Band(0, 4), [(0, 4), (0, 2)])
        for plan, length in [(low, 0), (("try", 0, low, end), 1), (("try", 1, low, ("try", 0, low, end)), 2), (high, None)]:
            self.assertEqual(check_plan(*settled, plan), length)

    def test_impossible_start(self):
        given = (Site.plain(1, 9, 0), [reached(0, -1)], Band(0, 4), [(0, 4), (0, 2)])
        end = ("impossible",)
        for plan, length in [(end, 0), (("try", 0, end, end), 1), (("try", 0, end, ("try", 1, end, end)), 2),
                             (("settled", 0), None), (("try", 0, end, ("try", 0, end, end)), None), (None, None)]:
            self.assertEqual(check_plan(*given, plan), length)
        # The given trial is misread anyway, so that no other one is if one may be.
        self.assertIsNone(check_plan(*given, ("settled", 0), misreads=1))
        self.assertEqual(check_plan(*given, ("try", 0, ("settled", 0), ("settled", 1)), misreads=1), 1)
        self.assertIsNone(check_plan(*given, ("try", 0, ("settled", 0), ("settled", 1)), misreads=2))

    def test_with_misread_trials(self):
        given = (Site.plain(1, 9, 0), [], Band(0, 4), [(0, 4)] * 3)
        low, high = ("settled", 0), ("settled", 1)
        last = ("try", 2, low, high)
        plan = ("try", 0, ("try", 1, low, last), ("try", 1, last, high))
        self.assertEqual(check_plan(*given, plan, misreads=1), 3)
        self.assertIsNone(check_plan(*given, plan))
        self.assertIsNone(check_plan(*given, plan, misreads=2))
        self.assertIsNone(check_plan(*given, ("try", 0, low, high), misreads=1))

    def test_names_of_arguments(self):
        length = check_plan(misreads=0, plan=("settled", 0), menu=[], wish=Wish(), trials=(), site=Site.plain(1, 9, 0))
        self.assertEqual(length, 0)


class CheckStallTest(GameChecks):
    def test_drawn_books(self):
        found = []
        for draw, given, told, listing in self.games(647, 200):
            book = {}
            for state in listing.states:
                if len(listing.answers(state)) > 1:
                    fewest = listing.fewest(state)
                    book[state] = state.count(".") + 1 if fewest is None else fewest
            for _ in range(8):
                drawn = dict(book)
                for state in draw.sample(sorted(drawn), draw.randint(0, min(2, len(drawn)))):
                    drawn[state] += draw.choice([-1, -1, 1])
                if drawn and draw.random() < 0.3:
                    drawn.pop(draw.choice(sorted(drawn)))
                if draw.random() < 0.1:
                    drawn[draw.choice(listing.states + ["x"])] = draw.randint(0, 2)
                number = check_stall(*given, drawn, **told)
                self.assertEqual(number, drawn.get(listing.start, 0) if listing.is_book(drawn) else None)
                found.append(number)
        for number, least in [(None, 100), (0, 100), (1, 50), (2, 20), (3, 10)]:
            self.assertGreater(found.count(number), least, number)

    def test_books_of_planners(self):
        for _, given, told, listing in self.games(653, 80):
            if listing.answers(listing.start):
                planner = Planner(*given, **told)
                fewest = planner.fewest()
                expected = len(listing.menu) + 1 if fewest is None else fewest
                self.assertEqual(check_stall(*given, planner.stall(), **told), expected)

    def test_by_hand(self):
        given = (Site.plain(1, 9, 0), [], Band(0, 4, 6), [(0, 4), (0, 6)])
        for book, number in [({}, 0), ({"..": 1}, 1), ({"..": 2, "m.": 1, ".r": 1}, 2), ({"m.": 1, ".r": 1}, 0), ({"m.": 1}, 0)]:
            self.assertEqual(check_stall(*given, book), number)
        for book in (
            {"..": 2}, {"..": 2, "m.": 1}, {"..": 2, ".r": 1}, {"..": 3, "m.": 1, ".r": 1}, {"..": HUGE}, {"m.": 2},
            {"..": 0}, {"..": -1}, {"..": 1, "m.": 0}, {"..": 1, ".r": -HUGE}, {"..": 2, "m.": 1, ".r": 0},
        ):
            self.assertIsNone(check_stall(*given, book), book)

    def test_texts_that_are_no_state(self):
        given = (Site.plain(1, 9, 0), [], Band(0, 4, 6), [(0, 4), (0, 6)])
        for text in ("", ".", "...", "R.", "x.", " .", "..\n", "mr.", "start"):
            self.assertIsNone(check_stall(*given, {text: 1}))
            self.assertIsNone(check_stall(*given, {"..": 1, text: 1}))
            self.assertIsNone(check_stall(*given, {text: 1, "..": 1}))

    def test_settled_and_impossible_states(self):
        given = (Site.plain(1, 9, 0), [], Band(0, 4, 6), [(0, 4), (0, 6)])
        for state in ("r.", ".m", "rr", "mm", "mr", "rm"):
            self.assertIsNone(check_stall(*given, {state: 1}), state)
            self.assertIsNone(check_stall(*given, {"..": 1, state: 1}))
        settled = (Site.plain(1, 9, 0), [reached(0, 4)], Band(0, 4), [(0, 2)])
        self.assertEqual((check_stall(*settled, {}), check_stall(*settled, {".": 1})), (0, None))

    def test_every_entry_tried(self):
        given = (Site.plain(1, 9, 0), [], Band(0, 4), [(0, 3)])
        for number in (1, 2, 7, HUGE):
            self.assertEqual(check_stall(*given, {"m": number}), 0)
            self.assertEqual(check_stall(*given, {"m": number, ".": number + 1}), number + 1)
            self.assertIsNone(check_stall(*given, {"m": number, ".": number + 2}))
        self.assertEqual(check_stall(*given[:3], [], {"": HUGE}), HUGE)
        self.assertIsNone(check_stall(*given[:3], [], {"": 0}))

    def test_impossible_start(self):
        given = (Site.plain(1, 9, 0), [reached(0, -1)], Band(0, 4), [(0, 4), (0, 2)])
        self.assertEqual(check_stall(*given, {}), 0)
        for state in ("..", "r.", "mm"):
            self.assertIsNone(check_stall(*given, {state: 1}))
        self.assertEqual(check_stall(*given, {"..": 1}, misreads=1), 1)

    def test_names_of_arguments(self):
        book = {".": 2, "m": 1}
        number = check_stall(misreads=0, book=book, menu=[(0, 3)], wish=Band(0, 4), trials=(), site=Site.plain(1, 9, 0))
        self.assertEqual((number, book), (2, {".": 2, "m": 1}))


class CheckTwinsTest(GameChecks):
    def is_right(self, listing, twins):
        first, second, state = twins
        if state not in listing.states or "." in state:
            return False
        left = listing.left(state)
        return first in left and second in left and listing.answer(first) != listing.answer(second)

    def test_drawn_twins(self):
        found = []
        for draw, given, told, listing in self.games(659, 200):
            states = listing.states + ["", ".", "x", "rrrrr"]
            for _ in range(20):
                state = draw.choice(states)
                choice = listing.left(state) if state in listing.states and draw.random() < 0.8 else listing.shapes
                first, second = [list(draw.choice(choice or listing.shapes)) for _ in range(2)]
                if draw.random() < 0.1:
                    first[0] += draw.choice([-9, 9])
                if draw.random() < 0.1:
                    second.append(0)
                twins = (first, second, state)
                right = check_twins(*given, twins, **told)
                self.assertIs(right, self.is_right(listing, twins))
                found.append((right, listing.misreads))
        for told in product((True, False), (0, 1, 2)):
            self.assertGreater(found.count(told), 20, told)

    def test_twins_of_planners(self):
        found = []
        for _, given, told, listing in self.games(661, 120):
            if listing.answers(listing.start):
                twins = Planner(*given, **told).twins()
                if twins is not None:
                    self.assertIs(check_twins(*given, twins, **told), True)
                found.append(twins is None)
        self.assertGreater(min(found.count(True), found.count(False)), 10)

    def test_by_hand(self):
        given = (Site.plain(2, 9, 9), [reached(1, 8)], Band(0, 4), [(0, 3), (0, 6)])
        self.assertIs(check_twins(*given, ([4, 0], [5, 8], "mr")), True)
        self.assertIs(check_twins(*given, ([6, 0], [4, 0], "mr")), True)
        for twins in (
            ([4, 0], [5, 8], "m."), ([4, 0], [5, 8], ".."), ([4, 0], [5, 8], "m"), ([4, 0], [5, 8], "mrr"),
            ([4, 0], [5, 8], ""), ([4, 0], [5, 8], "mx"), ([4, 0], [5, 8], "mm"), ([4, 0], [5, 8], "rr"),
            ([4, 0], [4, 0], "mr"), ([4, 0], [4, 3], "mr"), ([5, 0], [6, 0], "mr"), ([3, 0], [5, 0], "mr"),
            ([4, 0], [7, 0], "mr"), ([4, 0], [5, 9], "mr"), ([4, 0], [5, 10], "mr"), ([4, -1], [5, 0], "mr"),
            ([4], [5, 0], "mr"), ([], [], "mr"), ([4, 0, 0], [5, 0], "mr"), ([4, 0], [5, 0, 0], "mr"), ([], [5], "mr"),
        ):
            self.assertIs(check_twins(*given, twins), False, twins)
        self.assertIs(check_twins(*given, ([3, 0], [5, 9], "mr"), misreads=1), True)
        self.assertIs(check_twins(*given, ([3, 9], [5, 9], "mr"), misreads=1), False)
        self.assertIs(check_twins(*given, ([4, 0], [5, 0], "rm"), misreads=2), True)

    def test_empty_menu(self):
        given = (Site.plain(1, 9, 0), [], Band(0, 4), [])
        self.assertIs(check_twins(*given, ([4], [5], "")), True)
        self.assertIs(check_twins(*given, ([4], [5], ".")), False)

    def test_impossible_start(self):
        given = (Site.plain(1, 9, 0), [reached(0, -1)], Band(0, 4), [(0, 3)])
        for state in ("r", "m", "."):
            self.assertIs(check_twins(*given, ([4], [5], state)), False)
        self.assertIs(check_twins(*given, ([4], [5], "m"), misreads=1), True)

    def test_names_of_arguments(self):
        twins = ([4], [5], "m")
        right = check_twins(misreads=0, twins=twins, menu=[(0, 3)], wish=Band(0, 4), trials=(), site=Site.plain(1, 9, 0))
        self.assertEqual((right, twins), (True, ([4], [5], "m")))


class OrderTest(ErrorChecks):
    PAPERS = [
        (check_plan, ("impossible",)),
        (check_plan, None),
        (check_stall, {}),
        (check_stall, {"x": 0}),
        (check_twins, ([0, 0, 0], [1, 1, 1], "rr")),
        (check_twins, ([], [], ".")),
    ]

    def test_errors_like_those_of_a_planner(self):
        site = Site(WALLS, LINKS)
        alone, bad_wish = [reached(0, -1)], Band(7, 3)
        many = [(0, at) for at in range(7)]
        for call, paper in self.PAPERS:
            for place in (-HUGE, -2, -1, 3, HUGE):
                for trials in ([reached(place, 2), missed(9, 4)], (reached(0, -1), missed(place, 2))):
                    self.assert_raises(NoPlace, place, call, site, trials, bad_wish, [(8, 3)] * 7, paper, misreads=-1)
                wish = AllWithin((0, 3), (place, 3), (98, 3))
                self.assert_raises(NoPlace, place, call, site, alone, wish, [(8, 3)] * 7, paper)
                for menu in ([(0, 3), (place, 3), (98, 3)], [(place, 1)] * 9, many + [(place, 0), (99, 0)]):
                    self.assert_raises(NoPlace, place, call, site, alone, Band(1, 3), menu, paper)
            for misreads in (-1, -HUGE):
                self.assert_raises(BadNumber, misreads, call, site, alone, bad_wish, [(8, 3)] * 7, paper, misreads=misreads)
            for count in (7, 8, 50):
                self.assert_raises(TooMany, count, call, site, alone, Band(1, 3), [(0, 2)] * count, paper)

    def test_no_shape_is_no_error(self):
        site, shapes = Site(WALLS, LINKS), shapes_of(WALLS, LINKS)
        trials = [reached(0, -1), missed(2, 9), reached(1, 3), missed(1, 3)]
        self.assertEqual(fewest_of(shapes, trials), 3)
        self.assertIsNotNone(best_shape(site, trials))
        for misreads in range(3):
            for call, paper in self.PAPERS:
                told = call(site, trials, Band(1, 3), [(0, 2), (1, 4)], paper, misreads=misreads)
                self.assertIn(told, (0, None, False))

    def test_books_of_large_menus(self):
        unit = 10**38
        site = Site.plain(1, 90 * unit, 0)
        wish = Band(0, *[(10 + 10 * at) * unit for at in range(8)])
        menu = [(0, (10 + 10 * at) * unit) for at in range(6)]
        planner = Planner(site, [], wish, menu)
        listing = StateListing([[0]], [], lambda heights: 0, menu)
        self.assertEqual(len(listing.states), 729)
        with time_limit(30):
            self.assertEqual(check_stall(site, [], wish, menu, planner.stall()), 7)
            self.assertIs(check_twins(site, [], wish, menu, planner.twins()), True)
            self.assertIsNone(check_stall(site, [], wish, menu, dict.fromkeys(listing.states, 1)))
            wish = Band(0, *[(10 + 10 * at) * unit for at in range(6)])
            planner = Planner(site, [], wish, menu)
            self.assertEqual(check_plan(site, [], wish, menu, planner.plan()), 3)
            self.assertEqual(check_stall(site, [], wish, menu, planner.stall()), 3)


if __name__ == "__main__":
    unittest.main()
