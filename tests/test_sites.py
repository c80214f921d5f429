"""Points [8] to [12]: sites, their told limits, and what follows from them."""

import random
import unittest
from itertools import product

from samples import (
    HUGE,
    ErrorChecks,
    drawn_links,
    drawn_walls,
    fitting_links,
    is_shape,
    large_site,
    least_sums,
    shapes_of,
    told_of,
    told_rows,
)

from rungbounds.errors import BadName, BadNumber, NoPlace, NoSite, TakenName, TooMany, UnknownName
from rungbounds.sites import GROUND, Site


class SiteChecks(ErrorChecks):
    def assert_chain(self, site, told, first, second):
        """Check that a chain derives the limit."""
        chain = site.chain(first, second)
        self.assertIs(chain.__class__, list)
        self.assertEqual((chain[0], chain[-1]), (first, second))
        self.assertEqual(len(set(chain)), len(chain))
        self.assertEqual(sum(told[pair] for pair in zip(chain, chain[1:])), site.limit(first, second))

    def assert_ring(self, walls, links):
        """Check that the walls and links raise NoSite with a right ring."""
        told = told_of(walls, links)
        with self.assertRaises(NoSite) as caught:
            Site(walls, links)
        ring = caught.exception.ring
        self.assertIs(ring.__class__, list)
        self.assertGreaterEqual(len(ring), 2)
        self.assertEqual(len(set(ring)), len(ring))
        self.assertLess(sum(told[pair] for pair in zip(ring, ring[1:] + ring[:1])), 0)


WALLS = [("north", 10, 2, (1, 3)), ("gate", 7, 0, ()), ("south", 6, 1, (2,))]
LINKS = [(2, 3, -1, 4), (4, 0, -5, 6), (2, 3, -3, 2)]


class WallTest(SiteChecks):
    def test_example(self):
        site = Site([("north", 10, 2, (1, 3)), ("south", 6, 1, ())], [(2, 3, -1, 4)])
        self.assertEqual([site.size, site.limit(-1, 0), site.limit(0, 3), site.chain(-1, 0)], [4, 10, 6, [-1, 0]])

    def test_ground(self):
        self.assertEqual(GROUND, -1)

    def test_walls_links_and_names(self):
        site = Site(WALLS, LINKS)
        self.assertEqual(vars(site)["size"], 6)
        self.assertEqual(site.walls(), WALLS)
        self.assertEqual(site.links(), LINKS)
        self.assertEqual(site.names(), ["north", "gate", "south"])
        for rows in (site.walls(), site.links()):
            self.assertIs(rows.__class__, list)
            self.assertTrue(all(row.__class__ is tuple for row in rows))
        self.assertIs(site.walls()[0][3].__class__, tuple)

    def test_names_of_arguments(self):
        site = Site(links=tuple(LINKS), walls=tuple(WALLS))
        self.assertEqual((site.walls(), site.links()), (WALLS, LINKS))
        self.assertEqual(site.place_of(index=1, name="south"), 5)
        self.assertEqual((site.spot_of(place=5), site.top_of(place=5)), (("south", 1), 6))
        self.assertEqual(site.told(second=1, first=0), 2)
        self.assertEqual(site.limit(second=0, first=-1), 10)
        self.assertEqual(site.chain(second=0, first=-1), [-1, 0])
        self.assertIs(site.fits(heights=[0, 0, 0, 0, 0, 0]), True)

    def test_places(self):
        site = Site(WALLS)
        spots = [("north", 0), ("north", 1), ("north", 2), ("gate", 0), ("south", 0), ("south", 1)]
        self.assertEqual([site.spot_of(place) for place in range(6)], spots)
        self.assertTrue(all(site.spot_of(place).__class__ is tuple for place in range(6)))
        self.assertEqual([site.place_of(name, index) for name, index in spots], list(range(6)))
        self.assertEqual([site.top_of(place) for place in range(6)], [10, 10, 10, 7, 6, 6])

    def test_errors_of_place_of(self):
        site = Site(WALLS)
        self.assert_raises(UnknownName, "west", site.place_of, "west", 0)
        self.assert_raises(UnknownName, "West", site.place_of, "West", -1)
        self.assert_raises(UnknownName, "nort", site.place_of, "nort", 9)
        for name, index in (("north", 3), ("north", -1), ("gate", 1), ("gate", -1), ("south", 2), ("south", 5), ("south", HUGE)):
            self.assert_raises(NoPlace, index, site.place_of, name, index)

    def test_errors_of_spot_of_and_top_of(self):
        site = Site(WALLS)
        for place in (-HUGE, -2, -1, 6, 7, HUGE):
            self.assert_raises(NoPlace, place, site.spot_of, place)
            self.assert_raises(NoPlace, place, site.top_of, place)

    def test_single_place(self):
        site = Site([("a", 0, 0, ())])
        self.assertEqual((site.size, site.links(), site.place_of("a", 0), site.spot_of(0), site.top_of(0)), (1, [], 0, ("a", 0), 0))
        self.assertEqual((site.limit(-1, 0), site.limit(0, -1), site.fits([0]), site.fits([1])), (0, 0, True, False))

    def test_no_wall(self):
        for site in (Site([]), Site((), ()), Site([], [])):
            self.assertEqual((site.size, site.walls(), site.links(), site.names()), (0, [], [], []))
            self.assertIs(site.fits([]), True)
            self.assertIs(site.fits([0]), False)
            self.assertEqual((site.told(-1, -1), site.limit(-1, -1), site.chain(-1, -1)), (None, 0, [-1]))
            self.assert_raises(NoPlace, 0, site.spot_of, 0)
            self.assert_raises(NoPlace, 0, site.top_of, 0)
            self.assert_raises(NoPlace, 0, site.limit, 0, -1)
            self.assert_raises(NoPlace, 0, site.told, -1, 0)
            self.assert_raises(UnknownName, "a", site.place_of, "a", 0)
        self.assert_raises(NoPlace, 0, Site, [], [(0, 1, 0, 0)])

    def test_lists_passed_are_copied(self):
        walls, links = list(WALLS), list(LINKS)
        site = Site(walls, links)
        self.assertEqual((walls, links), (WALLS, LINKS))
        limits = [[site.limit(u, v) for v in range(-1, 6)] for u in range(-1, 6)]
        walls.append(("west", 1, 1, ()))
        walls[0] = ("north", 1, 0, ())
        links.clear()
        self.assertEqual((site.walls(), site.links(), site.size), (WALLS, LINKS, 6))
        self.assertEqual([[site.limit(u, v) for v in range(-1, 6)] for u in range(-1, 6)], limits)

    def test_lists_returned_are_new(self):
        site = Site(WALLS, LINKS)
        chain = site.chain(-1, 5)
        site.walls().clear()
        site.links().append((0, 1, 0, 0))
        site.names().reverse()
        site.chain(-1, 5).append(3)
        site.chain(2, 2).append(3)
        self.assertEqual((site.walls(), site.links(), site.names()), (WALLS, LINKS, ["north", "gate", "south"]))
        self.assertEqual((site.chain(-1, 5), site.chain(2, 2)), (chain, [2]))
        heights = [0, 0, 0, 0, 0, 0]
        site.fits(heights)
        self.assertEqual(heights, [0, 0, 0, 0, 0, 0])

    def test_plain(self):
        site = Site.plain(4, 20, 2)
        self.assertIs(site.__class__, Site)
        self.assertEqual((site.size, site.walls(), site.links()), (4, [("plain", 20, 2, (1, 1, 1))], []))
        self.assertEqual(Site.plain(1, 0, 0).walls(), [("plain", 0, 0, ())])
        self.assertEqual(Site.plain(slope=HUGE, top=HUGE, count=24).walls(), [("plain", HUGE, HUGE, (1,) * 23)])

    def test_errors_of_plain(self):
        self.assert_raises(BadNumber, 0, Site.plain, 0, -1, -2)
        self.assert_raises(BadNumber, -HUGE, Site.plain, -HUGE, 1, 1)
        for count in (1, 24, 25, HUGE):
            self.assert_raises(BadNumber, -1, Site.plain, count, -1, -2)
            self.assert_raises(BadNumber, -2, Site.plain, count, 0, -2)
        for count in (25, 26, 100, HUGE):
            self.assert_raises(TooMany, count, Site.plain, count, 0, 0)


class ConstructorTest(SiteChecks):
    def assert_walls_raise(self, error, worth, *walls, links=()):
        self.assert_raises(error, worth, Site, list(walls), links)

    def test_bad_name(self):
        for name in ("", "abcdefghijklm", "North", "a b", "a1", "n_", "-", "nortH"):
            self.assert_walls_raise(BadName, name, (name, 1, 1, ()))
        self.assertEqual(Site([("abcdefghijkl", 1, 1, ())]).names(), ["abcdefghijkl"])

    def test_taken_name(self):
        self.assert_walls_raise(TakenName, "b", ("a", 1, 1, ()), ("b", 1, 1, ()), ("b", 1, 1, ()), ("a", 1, 1, ()))
        self.assert_walls_raise(TakenName, "a", ("a", 1, 1, ()), ("b", 1, 1, ()), ("a", 1, 1, ()), ("b", 1, 1, ()))

    def test_bad_numbers(self):
        self.assert_walls_raise(BadNumber, -1, ("a", -1, 1, ()))
        self.assert_walls_raise(BadNumber, -2, ("a", 1, -2, ()))
        self.assert_walls_raise(BadNumber, -2, ("a", 1, -2, (1, 2)))
        self.assert_walls_raise(BadNumber, 0, ("a", 1, 1, (0,)))
        self.assert_walls_raise(BadNumber, -3, ("a", 1, 1, (1, 2, -3, 0)))
        self.assert_walls_raise(BadNumber, -HUGE, ("a", -HUGE, 1, ()))

    def test_order_within_a_wall(self):
        first = ("a", 1, 1, ())
        self.assert_walls_raise(BadName, "A", first, ("A", -1, -2, (0,)))
        self.assert_walls_raise(TakenName, "a", first, ("a", -1, -2, (0,)))
        self.assert_walls_raise(BadNumber, -1, first, ("b", -1, -2, (0,)))
        self.assert_walls_raise(BadNumber, -2, first, ("b", 0, -2, (0,)))
        self.assert_walls_raise(BadNumber, 0, first, ("b", 0, 0, (1, 0, -5)))

    def test_order_wall_by_wall(self):
        self.assert_walls_raise(BadNumber, 0, ("a", 1, 1, (0,)), ("B", 1, 1, ()))
        self.assert_walls_raise(BadNumber, -4, ("a", 1, -4, ()), ("a", 1, 1, ()))
        self.assert_walls_raise(TakenName, "a", ("a", 1, 4, ()), ("a", 1, 1, ()), ("b", -1, 1, ()))
        self.assert_walls_raise(BadNumber, -3, ("a", 1, 4, ()), ("b", -3, 1, ()), ("C", -1, 1, ()))

    def test_too_many_places(self):
        self.assertEqual(Site([("a", 1, 1, (1,) * 11), ("b", 1, 1, (1,) * 11)]).size, 24)
        self.assert_walls_raise(TooMany, 25, ("a", 1, 1, (1,) * 11), ("b", 1, 1, (1,) * 12))
        self.assert_walls_raise(TooMany, 25, *[(letter, 1, 1, ()) for letter in "abcdefghijklmnopqrstuvwxy"])
        self.assert_walls_raise(TooMany, 101, ("a", 1, 1, (1,) * 100), links=[(200, 0, 0, 0)])
        self.assert_walls_raise(BadNumber, -1, ("a", 1, 1, (1,) * 30), ("b", -1, 1, ()))
        self.assertEqual(Site([(letter, 1, 1, ()) for letter in "abcdefghijklmnopqrstuvwx"]).size, 24)

    def test_links_to_no_place(self):
        walls = [("a", 5, 1, (1,)), ("b", 5, 1, ())]
        for place in (-HUGE, -2, GROUND, 3, 4, HUGE):
            self.assert_raises(NoPlace, place, Site, walls, [(place, 0, 0, 0)])
            self.assert_raises(NoPlace, place, Site, walls, [(0, place, 0, 0)])
            self.assert_raises(NoPlace, place, Site, walls, [(place, place, 0, 0)])
        self.assert_raises(NoPlace, -1, Site, walls, [(-1, 9, 0, 0)])
        self.assert_raises(NoPlace, 9, Site, walls, [(9, -1, 0, 0)])
        for place in range(3):
            self.assert_raises(NoPlace, place, Site, walls, [(place, place, 0, 0)])

    def test_order_link_by_link(self):
        walls = [("a", 5, 1, (1,)), ("b", 5, 1, ())]
        self.assert_raises(NoPlace, 2, Site, walls, [(0, 1, 0, 0), (2, 2, 0, 0), (7, 0, 0, 0)])
        self.assert_raises(NoPlace, 7, Site, walls, [(0, 1, 0, 0), (7, 0, 0, 0), (2, 2, 0, 0)])
        self.assert_raises(NoPlace, 8, Site, walls, [(0, 8, 0, 0), (7, 0, 0, 0)])

    def test_no_site_comes_last(self):
        walls = [("a", 5, 1, (1,)), ("b", 5, 1, ())]
        self.assert_ring(walls, [(0, 1, 3, 2)])
        self.assert_raises(NoPlace, 3, Site, walls, [(0, 1, 3, 2), (0, 3, 0, 0)])
        self.assert_raises(BadNumber, -1, Site, [("a", 5, 1, (1,)), ("b", -1, 1, ())], [(0, 1, 3, 2)])

    def test_more_links_than_forty(self):
        links = [(0, 1, -5, 5 + at) for at in range(50)]
        site = Site([("a", 9, 9, (1,))], links)
        self.assertEqual((site.links(), site.told(0, 1)), (links, 5))


class FitsTest(SiteChecks):
    def test_each_limit_by_one(self):
        walls = [("a", 10, 2, (1, 3)), ("b", 6, 1, ()), ("c", 9, 9, ())]
        links = [(2, 3, -1, 4), (4, 0, -9, 3)]
        site = Site(walls, links)
        good = [[4, 6, 3, 5, 4], [0, 0, 0, 0, 0], [3, 5, 2, 6, 0], [7, 5, 7, 6, 9], [10, 10, 4, 3, 7], [0, 0, 0, 0, 9]]
        for heights in good:
            self.assertIs(site.fits(heights), True, heights)
        bad = [
            [-1, 0, 0, 0, 0], [0, -1, 0, 0, 0], [1, 1, -1, 0, 0], [0, 0, 0, -1, 0], [0, 0, 0, 0, -1],
            [11, 10, 5, 5, 8], [10, 11, 5, 5, 8], [3, 5, 3, 7, 3], [3, 5, 3, 5, 10],
            [3, 6, 3, 5, 4], [6, 3, 3, 5, 4], [1, 0, 7, 6, 1], [8, 9, 2, 5, 8],
            [5, 5, 5, 3, 5], [3, 3, 1, 6, 4], [8, 6, 5, 5, 4],
        ]
        for heights in bad:
            levels = [*heights, 0]
            over = [levels[second] - levels[first] - most for first, second, most in told_rows(walls, links)]
            self.assertEqual([more for more in over if more > 0], [1], heights)
            self.assertIs(site.fits(heights), False, heights)
        # A link whose `least` is broken: the height of place 4 is 9, that of place 0 below 0.
        self.assertIs(Site(walls, [(4, 0, -8, 3)]).fits([0, 0, 0, 0, 9]), False)
        self.assertIs(Site(walls, [(4, 0, -9, 3)]).fits([0, 0, 0, 0, 9]), True)

    def test_slope_in_both_directions(self):
        site = Site([("a", 50, 3, (4,))])
        self.assertEqual([site.fits([20, 20 + rise]) for rise in (-13, -12, 0, 12, 13)], [False, True, True, True, False])

    def test_link_in_both_directions(self):
        site = Site([("a", 50, 50, (1,))], [(1, 0, 2, 5)])
        self.assertEqual([site.fits([20 + gap, 20]) for gap in (-2, 1, 2, 5, 6)], [False, False, True, True, False])

    def test_lists_of_another_length(self):
        site = Site.plain(3, 9, 9)
        for heights in ([], [0], [0, 0], [0, 0, 0, 0], [0] * 30):
            self.assertIs(site.fits(heights), False)
        self.assertIs(site.fits([0, 0, 0]), True)

    def test_long_numbers(self):
        site = Site([("a", HUGE, HUGE, (HUGE,)), ("b", HUGE, 0, (HUGE,))], [(0, 2, 10**39, 10**39)])
        self.assertIs(site.fits([0, HUGE, 10**39, 10**39]), True)
        self.assertIs(site.fits([0, HUGE, 10**39, 10**39 + 1]), False)
        self.assertIs(site.fits([0, HUGE + 1, 10**39, 10**39]), False)
        self.assertIs(site.fits([1, HUGE, 10**39, 10**39]), False)


class ToldTest(SiteChecks):
    def assert_told(self, walls, links):
        site = Site(walls, links)
        told = told_of(walls, links)
        for first in range(-1, site.size):
            for second in range(-1, site.size):
                self.assertEqual(site.told(first, second), told.get((first, second)))

    def test_small_site_by_hand(self):
        site = Site([("a", 10, 2, (1, 3)), ("b", 6, 1, ())], [(2, 3, -1, 4), (3, 2, -9, 0), (1, 2, 3, 5)])
        none = None
        self.assertEqual(
            [[site.told(first, second) for second in range(-1, 4)] for first in range(-1, 4)],
            [
                [none, 10, 10, 10, 6],
                [0, none, 2, none, none],
                [0, 2, none, 5, none],
                [0, none, -3, none, 4],
                [0, none, none, 0, none],
            ],
        )

    def test_against_walls_and_links(self):
        self.assert_told(WALLS, LINKS)
        self.assert_told([("a", HUGE, HUGE, (HUGE, 1))], [(0, 2, 10**39, 10**39 + 5), (2, 0, -HUGE, HUGE)])
        self.assert_told([("a", 9, 9, (1,))], [(0, 1, 2, 7), (0, 1, 1, 5), (1, 0, -4, 6), (1, 0, -6, -3)])
        draw = random.Random(11)
        for unit in (1, 5, 10**38):
            walls, links, _ = large_site(draw, unit)
            self.assert_told(walls, links)

    def test_errors(self):
        site = Site(WALLS, LINKS)
        for call in (site.told, site.limit, site.chain):
            for node in (-HUGE, -3, -2, 6, 7, HUGE):
                for good in (GROUND, 0, 5):
                    self.assert_raises(NoPlace, node, call, node, good)
                    self.assert_raises(NoPlace, node, call, good, node)
                self.assert_raises(NoPlace, node, call, node, node)
                self.assert_raises(NoPlace, node, call, node, 9)
                self.assert_raises(NoPlace, 9, call, 9, node)


class LimitTest(SiteChecks):
    def check_against_shapes(self, walls, links):
        """Check a small site against the listing of its shapes; tell whether it has one."""
        shapes = shapes_of(walls, links)
        if not shapes:
            self.assert_ring(walls, links)
            return False
        site = Site(walls, links)
        told = told_of(walls, links)
        levels = [[*heights, 0] for heights in shapes]
        for first in range(-1, site.size):
            for second in range(-1, site.size):
                self.assertEqual(site.limit(first, second), max(row[second] - row[first] for row in levels))
                self.assert_chain(site, told, first, second)
        return True

    def test_drawn_small_sites(self):
        draw = random.Random(23)
        results = []
        for at in range(300):
            walls = drawn_walls(draw, 4, 4)
            size = sum(len(wall[3]) + 1 for wall in walls)
            links = drawn_links(draw, size, at % 6, 3)
            with self.subTest(walls=walls, links=links):
                results.append(self.check_against_shapes(walls, links))
        self.assertGreater(results.count(True), 60)
        self.assertGreater(results.count(False), 60)

    def test_fits_against_a_listing(self):
        draw = random.Random(29)
        for at in range(40):
            walls = drawn_walls(draw, 3, 3)
            heights = [draw.randint(0, 1) for wall in walls for _ in range(len(wall[3]) + 1)]
            links = fitting_links(draw, heights, at % 4, 2) if len(heights) > 1 else []
            if not shapes_of(walls, links):
                continue
            site = Site(walls, links)
            for row in product(range(-1, 5), repeat=site.size):
                self.assertIs(site.fits(list(row)), is_shape(walls, links, row))

    def test_edges_of_no_site(self):
        for gap in range(-6, 7):
            self.assertEqual(self.check_against_shapes([("a", 4, 2, (2,))], [(0, 1, gap, gap + 1)]), -5 <= gap <= 4)
            self.assertEqual(self.check_against_shapes([("a", 4, 2, ()), ("b", 3, 0, ())], [(0, 1, gap, 9)]), gap <= 3)
        self.assertFalse(self.check_against_shapes([("a", 4, 2, (2,))], [(0, 1, 1, 0)]))
        self.assertFalse(self.check_against_shapes([("a", 4, 4, (1, 1))], [(0, 1, 1, 4), (1, 2, 1, 4), (2, 0, -1, 4)]))
        self.assertTrue(self.check_against_shapes([("a", 4, 4, (1, 1))], [(0, 1, 1, 4), (1, 2, 1, 4), (2, 0, -2, 4)]))
        self.assertFalse(self.check_against_shapes([("a", 1, 0, ()), ("b", 0, 0, ())], [(0, 1, 1, 1)]))

    def test_ground_limits_are_heights(self):
        site = Site([("a", 10, 2, (1,)), ("b", 3, 0, ())], [(0, 1, 1, 9), (2, 0, 2, 5)])
        self.assertEqual([(-site.limit(place, -1), site.limit(-1, place)) for place in range(3)], [(2, 8), (3, 10), (0, 3)])

    def test_node_to_itself(self):
        draw = random.Random(31)
        walls, links, _ = large_site(draw, 3)
        site = Site(walls, links)
        for node in range(-1, 24):
            self.assertEqual((site.told(node, node), site.limit(node, node), site.chain(node, node)), (None, 0, [node]))

    def test_rings_of_sum_zero(self):
        # All heights are told exactly, so that many ways have the same sum.
        walls = [("a", 5, 0, (1, 1, 1)), ("b", 5, 5, (1, 1))]
        links = [(0, 4, 0, 0), (4, 5, 0, 0), (5, 6, 1, 1), (6, 0, -1, -1), (3, 5, 0, 0)]
        site = Site(walls, links)
        told = told_of(walls, links)
        for first in range(-1, 7):
            for second in range(-1, 7):
                self.assert_chain(site, told, first, second)
        self.assertEqual((site.limit(0, 6), site.limit(6, 0), site.limit(2, 5)), (1, -1, 0))

    def test_large_sites(self):
        draw = random.Random(37)
        for unit in (1, 2, 7, 1000, 10**38):
            walls, links, heights = large_site(draw, unit)
            site = Site(walls, links)
            told = told_of(walls, links)
            self.assertEqual((site.size, len(site.links())), (24, 40))
            self.assertIs(site.fits(heights), True)
            for first in range(-1, 24):
                sums = least_sums(24, told, first)
                for second in range(-1, 24):
                    self.assertEqual(site.limit(first, second), sums[second])
                    self.assert_chain(site, told, first, second)

    def test_large_sites_without_a_shape(self):
        draw = random.Random(41)
        for unit in (1, 2, 7, 1000, 10**38):
            walls, links, heights = large_site(draw, unit)
            site = Site(walls, links)
            for _ in range(12):
                first, second = draw.sample(range(24), 2)
                over = site.limit(first, second) + 1
                self.assert_ring(walls, [*links[:39], (first, second, over, over + unit), links[39]])
                Site(walls, [*links, (first, second, over - 1, over - 1)])

    def test_long_ring(self):
        # Only the ring through all places of the wall has a negative sum.
        walls = [("a", 100, 2, (1,) * 23)]
        Site(walls, [(0, 23, 46, 100)])
        self.assert_ring(walls, [(0, 23, 47, 100)])
        self.assert_ring(walls, [(23, 0, 47, 100)])
        self.assert_ring([("a", HUGE, HUGE // 30, (1,) * 23)], [(23, 0, 23 * (HUGE // 30) + 1, HUGE)])


if __name__ == "__main__":
    unittest.main()
