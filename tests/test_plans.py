"""Points [28] to [32]: planning trials of a menu."""

import random
import unittest
from itertools import product

from samples import (
    HUGE,
    ErrorChecks,
    StateListing,
    drawn_game,
    fewest_of,
    has_shape,
    is_shape,
    large_site,
    misreads_of,
    missed,
    reached,
    rows_of,
    shapes_of,
    time_limit,
    told_of,
    trials_about,
)

from rungbounds.errors import BadNumber, BadState, NoPlace, NoShape, TooMany
from rungbounds.misread import fewest_misread
from rungbounds.plans import Planner
from rungbounds.sites import Site
from rungbounds.wishes import AllWithin, Band, SomeWithin, Wish

WALLS = [("a", 9, 2, (1,)), ("b", 9, 9, ())]
LINKS = [(1, 2, 0, 3)]


class PlanChecks(ErrorChecks):
    def planner_of(self, game):
        walls, links, trials, wish, menu, misreads, _ = game
        return Planner(Site(walls, links), trials, wish, menu, misreads=misreads)

    def possible_games(self, seed, count, most_entries=3):
        """Draw games whose start state is not impossible; return them with their planners."""
        draw = random.Random(seed)
        games = []
        while len(games) < count:
            game = drawn_game(draw, most_entries)
            if game[-1].answers(game[-1].start):
                games.append((game[-1], self.planner_of(game), game))
        return games

    def check_plan(self, listing, state, plan, length):
        self.assertIs(plan.__class__, tuple)
        self.assertEqual(listing.plan_length(state, plan), length)

    def check_twins(self, listing, twins):
        self.assertIs(twins.__class__, tuple)
        first, second, state = twins
        self.assertIn(state, listing.states)
        self.assertNotIn(".", state)
        for heights in (first, second):
            self.assertIs(heights.__class__, list)
            self.assertIn(heights, listing.left(state))
        self.assertNotEqual(listing.answer(first), listing.answer(second))


class StateTest(PlanChecks):
    def test_every_state_of_drawn_menus(self):
        for listing, planner, _ in self.possible_games(501, 60):
            self.assertEqual(planner.start(), listing.start)
            for state in listing.states:
                self.assertEqual(rows_of(planner.trials_of(state)), rows_of(listing.trials_of(state)))
                self.assertIs(planner.trials_of(state).__class__, list)
                self.assertEqual(planner.answers(state), listing.answers(state))
                self.assertIs(planner.answers(state).__class__, list)
                for entry in range(-2, len(state) + 2):
                    results = listing.results(state).get(entry)
                    if results is None:
                        for result in (True, False):
                            self.assert_raises(BadNumber, entry, planner.after, state, entry, result)
                    else:
                        self.assertEqual([planner.after(state, entry, True), planner.after(state, entry, False)], results)

    def test_answers_are_those_of_the_wish(self):
        for listing, planner, (walls, links, _, wish, _, misreads, _) in self.possible_games(503, 15):
            site = Site(walls, links)
            for state in listing.states:
                found = wish.possible(site, planner.trials_of(state), misreads=misreads)
                self.assertEqual(planner.answers(state), found)

    def test_by_hand(self):
        planner = Planner(Site.plain(2, 9, 9), [reached(1, 4)], Band(0, 3), [(0, 5), (1, 2), (0, 1)])
        self.assertEqual(planner.start(), "...")
        self.assertEqual(planner.after("...", 1, False), ".m.")
        self.assertEqual(planner.after(".m.", 0, True), "rm.")
        self.assertEqual(planner.after("rm.", 2, False), "rmm")
        self.assertEqual(rows_of(planner.trials_of("m.r")), [(1, 4, True), (0, 5, False), (0, 1, True)])
        self.assertEqual(rows_of(planner.trials_of("...")), [(1, 4, True)])
        self.assertEqual([planner.answers(state) for state in ("...", "m..", "..r", "m.r", "r.m")], [[0, 1], [1], [0], [], [0, 1]])

    def test_equal_entries_are_different(self):
        site, walls = Site.plain(1, 9, 0), [("plain", 9, 0, ())]
        listing = StateListing(shapes_of(walls, []), [], lambda heights: int(heights[0] > 4), [(0, 4)] * 3, 1)
        planner = Planner(site, [], Band(0, 4), [(0, 4)] * 3, misreads=1)
        self.assertEqual(rows_of(planner.trials_of("r.m")), [(0, 4, True), (0, 4, False)])
        for state in listing.states:
            self.assertEqual(planner.answers(state), listing.answers(state))
        self.assertEqual([planner.fewest(state) for state in ("...", "r..", "rm.", "rr.", "mm.")], [3, 2, 1, 0, 0])
        self.assertEqual([planner.best(state) for state in ("...", "r..", "rm.", ".r.", "rr.")], [0, 1, 2, 0, None])

    def test_none_and_left_out_mean_the_start(self):
        for listing, planner, _ in self.possible_games(509, 20):
            start = listing.start
            self.assertEqual(rows_of(planner.trials_of(None)), rows_of(planner.trials_of(start)))
            for call in (planner.answers, planner.fewest, planner.best, planner.plan):
                self.assertEqual(call(), call(start))
                self.assertEqual(call(None), call(start))
                self.assertEqual(call(state=None), call(state=start))
            if start:
                self.assertEqual(planner.after(None, 0, True), planner.after(start, 0, True))
                self.assertEqual(planner.after(number=0, reached=False, state=None), "m" + start[1:])

    def test_bad_states(self):
        planner = Planner(Site.plain(1, 9, 0), [], Band(0, 4), [(0, 4), (0, 2)])
        empty = Planner(Site.plain(1, 9, 0), [], Band(0, 4), [])
        for one, states in [(planner, ("", ".", "...", "rrr", "R.", ".x", "  ", "r ", "..\n", "01")), (empty, (".", "r", " "))]:
            for state in states:
                for call in (one.trials_of, one.answers, one.fewest, one.best, one.plan):
                    self.assert_raises(BadState, state, call, state)
                for number in (-1, 0, 1, 2):
                    self.assert_raises(BadState, state, one.after, state, number, True)

    def test_bad_numbers(self):
        planner = Planner(Site.plain(1, 9, 0), [], Band(0, 4), [(0, 4), (0, 2)])
        for state in ("..", None, "r.", "mm"):
            for number in (-HUGE, -2, -1, 2, 3, HUGE):
                self.assert_raises(BadNumber, number, planner.after, state, number, True)
        for state, number in [("r.", 0), ("m.", 0), (".r", 1), (".m", 1), ("rm", 0), ("rm", 1)]:
            self.assert_raises(BadNumber, number, planner.after, state, number, False)
        empty = Planner(Site.plain(1, 9, 0), [], Band(0, 4), [])
        self.assert_raises(BadNumber, 0, empty.after, "", 0, True)

    def test_states_after_impossible_ones(self):
        planner = Planner(Site.plain(1, 9, 0), [], Band(0, 4), [(0, 4), (0, 2), (0, 7)])
        self.assertEqual(planner.answers("mr."), [])
        self.assertEqual(planner.after("mr.", 2, True), "mrr")
        self.assertEqual(planner.answers("mrr"), [])
        self.assertEqual(rows_of(planner.trials_of("mrr")), [(0, 4, False), (0, 2, True), (0, 7, True)])

    def test_lists_that_are_changed_afterwards(self):
        trials, menu = [reached(0, 8)], [(0, 4), (0, 2)]
        wish = Band(0, 4)
        planner = Planner(Site.plain(1, 9, 0), trials, wish, menu)
        trials.append(missed(0, 4))
        menu[0] = (0, 7)
        menu.append((0, 1))
        wish.cases().clear()
        self.assertEqual(planner.start(), "..")
        self.assertEqual(rows_of(planner.trials_of("rm")), [(0, 8, True), (0, 4, True), (0, 2, False)])
        self.assertEqual((planner.answers(), planner.fewest(), planner.best()), ([0, 1], 1, 0))
        planner.trials_of("..").clear()
        planner.answers("..").clear()
        planner.stall().clear()
        self.assertEqual(rows_of(planner.trials_of("..")), [(0, 8, True)])
        self.assertEqual((planner.answers(), planner.answers("..")), ([0, 1], [0, 1]))
        self.assertEqual(planner.stall()[".."], 1)

    def test_arguments_are_left(self):
        trials, menu = [reached(0, 8), missed(0, 8)], [(0, 4), (0, 2)]
        planner = Planner(Site.plain(1, 9, 0), trials, Band(0, 4), menu, misreads=1)
        planner.stall()
        planner.twins()
        planner.plan()
        self.assertEqual((rows_of(trials), menu), ([(0, 8, True), (0, 8, False)], [(0, 4), (0, 2)]))

    def test_lists_and_tuples(self):
        site = Site.plain(1, 9, 0)
        for trials in ([reached(0, 8)], (reached(0, 8),)):
            planner = Planner(misreads=0, menu=[(0, 4)], wish=Band(0, 4), trials=trials, site=site)
            self.assertEqual(rows_of(planner.trials_of("r")), [(0, 8, True), (0, 4, True)])
            self.assertEqual((planner.fewest(), planner.answers("m")), (1, [1]))
        with self.assertRaises(TypeError):
            Planner(site, [], Band(0, 4), [], 0)


class ConstructorTest(ErrorChecks):
    def test_order_of_errors(self):
        site = Site(WALLS, LINKS)
        alone, good, bad_wish = [reached(0, -1)], [reached(1, 3)], Band(7, 3)
        many = [(0, at) for at in range(7)]
        for place in (-HUGE, -2, -1, 3, HUGE):
            for trials in ([reached(place, 2), missed(9, 4)], (reached(0, -1), missed(place, 2))):
                self.assert_raises(NoPlace, place, Planner, site, trials, bad_wish, [(8, 3)] * 7, misreads=-1)
            wish = AllWithin((0, 3), (place, 3), (98, 3))
            self.assert_raises(NoPlace, place, Planner, site, alone, wish, [(8, 3)] * 7)
            self.assert_raises(NoPlace, place, Planner, site, good, wish, [(8, 3)])
            for menu in ([(0, 3), (place, 3), (98, 3)], [(place, 1)] * 9, many + [(place, 0), (99, 0)]):
                self.assert_raises(NoPlace, place, Planner, site, alone, Band(1, 3), menu)
                self.assert_raises(NoPlace, place, Planner, site, good, Wish(), menu, misreads=3)
        for misreads in (-1, -HUGE):
            self.assert_raises(BadNumber, misreads, Planner, site, alone, bad_wish, [(8, 3)] * 7, misreads=misreads)
            self.assert_raises(BadNumber, misreads, Planner, site, [], Wish(), [], misreads=misreads)
        for count in (7, 8, 50):
            self.assert_raises(TooMany, count, Planner, site, alone, Band(1, 3), [(0, 2)] * count)
            self.assert_raises(TooMany, count, Planner, site, good, Band(1, 3), [(0, 2)] * count, misreads=2)
        self.assertEqual(Planner(site, good, Band(1, 3), [(0, 2)] * 6).start(), "......")

    def test_no_shape_comes_last(self):
        site, shapes = Site(WALLS, LINKS), shapes_of(WALLS, LINKS)
        for trials in (
            [reached(0, -1)],
            [reached(2, 4), missed(2, 4)],
            [reached(0, 3), missed(1, 5), missed(0, 8), reached(1, 2), missed(0, 3), missed(2, 9)],
        ):
            fewest = fewest_of(shapes, trials)
            for misreads in range(fewest):
                for menu in ([], [(0, 2)] * 6):
                    self.assert_no_shape(shapes, trials, Planner, site, trials, Band(1, 3), menu, misreads=misreads)
                    self.assert_no_shape(shapes, trials, Planner, site, tuple(trials), Wish(), menu, misreads=misreads)
            self.assertNotEqual(Planner(site, trials, Band(1, 3), [], misreads=fewest).answers(), [])


class FewestTest(PlanChecks):
    def test_example(self):
        planner = Planner(Site.plain(1, 7, 0), [], Band(0, 1, 3, 5), [(0, 1), (0, 3), (0, 5)])
        self.assertEqual([planner.fewest(), planner.best(), planner.fewest("..m")], [2, 1, 0])

    def test_against_a_search(self):
        found = []
        for listing, planner, game in self.possible_games(521, 250):
            shapes = listing.shapes
            for state in listing.states:
                if not listing.answers(state):
                    trials = listing.trials_of(state)
                    for call in (planner.fewest, planner.best):
                        with self.assertRaises(NoShape) as caught:
                            call(state)
                        self.assert_blames(shapes, trials, caught.exception.blames)
                        self.assertEqual(len(caught.exception.blames), fewest_of(shapes, trials))
                    found.append("impossible")
                    continue
                self.assertEqual(planner.fewest(state), listing.fewest(state))
                self.assertEqual(planner.best(state), listing.best(state))
                found.append((listing.fewest(state), listing.misreads))
        for told in ["impossible", *product((0, 1, None), (0, 1))]:
            self.assertGreater(found.count(told), 20, told)
        for fewest, least in [(2, 20), (3, 2)]:
            self.assertGreater(sum(told[0] == fewest for told in found), least)

    def test_states_in_any_order(self):
        # What is asked for first must not change what is found later.
        for listing, planner, game in self.possible_games(523, 30):
            for state in reversed(listing.states):
                self.assertEqual(planner.answers(state), listing.answers(state))
                if listing.answers(state):
                    self.assertEqual(planner.best(state), listing.best(state))
            again = self.planner_of(game)
            self.assertEqual((again.fewest(), again.answers()), (planner.fewest(), planner.answers()))

    def test_settled(self):
        site = Site.plain(1, 9, 0)
        for wish in (Wish(), AllWithin(), SomeWithin(), Band(0), AllWithin((0, 9)), Band(0, -3, 9)):
            for menu in ([], [(0, 3), (0, 5)]):
                planner = Planner(site, [], wish, menu)
                self.assertEqual((planner.fewest(), planner.best()), (0, None))
                self.assertEqual(planner.plan(), ("settled", wish.answer([4])))
                self.assertEqual((planner.stall(), planner.twins()), ({}, None))

    def test_impossible_results_do_not_count(self):
        # Missed at 9 is impossible; missed at 5 leaves a single height for the place.
        site = Site.plain(1, 9, 0)
        planner = Planner(site, [missed(0, 3), reached(0, 6)], Band(0, 5), [(0, 9), (0, 5)])
        self.assertEqual((planner.fewest(), planner.best()), (1, 1))
        self.assertEqual((planner.fewest("r."), planner.best("r.")), (1, 1))
        self.assert_raises(NoShape, [(2,)], planner.fewest, "m.")
        planner = Planner(site, [missed(0, 8)], Band(0, 8), [(0, 8)])
        self.assertEqual(planner.fewest(), 0)

    def test_indexes_of_blames_refer_to_the_trials_of_the_state(self):
        planner = Planner(Site.plain(1, 9, 0), [reached(0, 8)], Band(0, 5), [(0, 6), (0, 2)])
        self.assert_raises(NoShape, [(1, 2)], planner.fewest, "mr")
        self.assert_raises(NoShape, [(1, 2)], planner.best, "mr")
        walls = [("plain", 9, 0, ())]
        planner = Planner(Site(walls), [reached(0, 1)], Band(0, 5), [(0, 6), (0, 2)])
        self.assert_raises(NoShape, [(1, 0)], planner.fewest, "m.")
        self.assert_no_shape(shapes_of(walls, []), planner.trials_of("mm"), planner.best, "mm")

    def test_no_way(self):
        site = Site.plain(2, 9, 9)
        planner = Planner(site, [], AllWithin((1, 4)), [(0, 4), (0, 5)])
        self.assertEqual((planner.fewest(), planner.best(), planner.plan()), (None, None, None))
        planner = Planner(site, [], AllWithin((1, 4)), [])
        self.assertEqual((planner.fewest(), planner.best(), planner.plan()), (None, None, None))
        planner = Planner(site, [], AllWithin((1, 4)), [(1, 4)], misreads=1)
        self.assertEqual((planner.fewest(), planner.best()), (None, None))

    def test_least_index_of_several_beginnings(self):
        site = Site.plain(1, 9, 0)
        self.assertEqual(Planner(site, [], Band(0, 4), [(0, 3), (0, 4), (0, 4)]).best(), 1)
        self.assertEqual(Planner(site, [], Band(0, 4, 6), [(0, 9), (0, 6), (0, 4)]).best(), 1)
        self.assertEqual(Planner(site, [], Band(0, 2, 4, 6), [(0, 6), (0, 2), (0, 4)]).best(), 2)


class PlanTest(PlanChecks):
    def test_against_a_listing(self):
        found = []
        for listing, planner, _ in self.possible_games(541, 150):
            for state in listing.states:
                plan = planner.plan(state)
                if not listing.answers(state):
                    self.assertEqual(plan, ("impossible",))
                elif listing.fewest(state) is None:
                    self.assertIsNone(plan)
                else:
                    self.check_plan(listing, state, plan, listing.fewest(state))
                found.append(plan and plan[0])
        for word in ("impossible", "settled", "try", None):
            self.assertGreater(found.count(word), 50)

    def test_by_hand(self):
        planner = Planner(Site.plain(1, 7, 0), [], Band(0, 3), [(0, 5), (0, 3)])
        self.assertEqual(planner.plan(), ("try", 1, ("settled", 0), ("settled", 1)))
        self.assertEqual(planner.plan("r."), ("try", 1, ("settled", 0), ("settled", 1)))
        self.assertEqual(planner.plan("m."), ("settled", 1))
        self.assertEqual(planner.plan("mr"), ("impossible",))
        self.assertEqual(planner.plan(state=".r"), ("settled", 0))

    def test_impossible_ends(self):
        planner = Planner(Site.plain(1, 9, 0), [reached(0, 4), missed(0, 4)], Band(0, 4), [(0, 4), (0, 4)], misreads=1)
        # Of the four trials at height 4 one is misread, so the second further one may be impossible.
        self.assertEqual(planner.plan(), ("try", 0, ("settled", 0), ("settled", 1)))
        planner = Planner(Site.plain(1, 9, 0), [], Band(0, 4, 6), [(0, 4), (0, 6)])
        plan = planner.plan()
        self.assertEqual(plan, ("try", 0, ("settled", 0), ("try", 1, ("settled", 1), ("settled", 2))))
        self.assertEqual(planner.plan("mr"), ("settled", 1))
        self.assertEqual(planner.plan("rm"), ("impossible",))
        listing = StateListing(shapes_of([("plain", 9, 0, ())], []), [], lambda row: row[0], [(0, 4)] * 2)
        self.assertEqual(listing.plan_length("r.", ("try", 1, ("impossible",), ("impossible",))), None)


class StallTest(PlanChecks):
    def test_against_a_listing(self):
        numbers = []
        for listing, planner, _ in self.possible_games(547, 150):
            book = planner.stall()
            self.assertIs(book.__class__, dict)
            self.assertTrue(all(number.__class__ is int for number in book.values()))
            self.assertTrue(listing.is_book(book), book)
            fewest = listing.fewest(listing.start)
            if fewest == 0:
                self.assertEqual(book, {})
            else:
                self.assertEqual(book[listing.start], len(listing.menu) + 1 if fewest is None else fewest)
            numbers.append(book.get(listing.start, 0))
        for number in range(4):
            self.assertGreater(numbers.count(number), 3)

    def test_by_hand(self):
        self.assertEqual(Planner(Site.plain(1, 9, 0), [], Band(0, 4), []).stall(), {"": 1})
        self.assertEqual(Planner(Site.plain(1, 9, 0), [], Band(0, 4), [(0, 4)]).stall(), {".": 1})
        book = Planner(Site.plain(1, 9, 0), [], Band(0, 4), [(0, 3)]).stall()
        self.assertEqual(book, {".": 2, "m": 1})


class TwinsTest(PlanChecks):
    def test_against_a_listing(self):
        found = []
        for listing, planner, _ in self.possible_games(557, 150):
            twins = planner.twins()
            found.append(twins is None)
            if listing.fewest(listing.start) is None:
                self.check_twins(listing, twins)
            else:
                self.assertIsNone(twins)
        self.assertGreater(found.count(True), 30)
        self.assertGreater(found.count(False), 30)

    def test_by_hand(self):
        planner = Planner(Site.plain(1, 9, 0), [], Band(0, 4), [(0, 3)])
        first, second, state = planner.twins()
        self.assertEqual(state, "m")
        self.assertEqual(sorted([first[0] > 4, second[0] > 4]), [False, True])
        self.assertTrue(3 < first[0] <= 9 and 3 < second[0] <= 9)
        first, second, state = Planner(Site.plain(1, 9, 0), [], Band(0, 4), []).twins()
        self.assertEqual((state, sorted([first[0] > 4, second[0] > 4])), ("", [False, True]))

    def test_new_lists(self):
        planner = Planner(Site.plain(1, 9, 0), [], Band(0, 4), [(0, 3)])
        first, second, _ = planner.twins()
        first.clear()
        second.clear()
        self.assertEqual([len(heights) for heights in planner.twins()[:2]], [1, 1])


class SizeTest(PlanChecks):
    """Menus of six entries, wishes of 64 cases, heights of 40 digits."""

    def check_planner(self, walls, links, planner, wish, trials, menu, misreads):
        """Check the papers of a planner by themselves; return the fewest."""
        site = Site(walls, links)
        seen = {}

        def answers(state):
            if state not in seen:
                tried = [(missed, reached)[sign == "r"](*menu[at]) for at, sign in enumerate(state) if sign != "."]
                told = [*trials, *tried]
                seen[state] = wish.possible(site, told, misreads=misreads)
            return seen[state]

        def length(state, plan):
            if plan[0] != "try":
                self.assertEqual(plan, ("settled", *answers(state)) if answers(state) else ("impossible",))
                return 0
            _, at, *parts = plan
            self.assertEqual(state[at], ".")
            return 1 + max(length(state[:at] + sign + state[at + 1:], part) for sign, part in zip("rm", parts))

        start, fewest, book = "." * len(menu), planner.fewest(), planner.stall()
        if fewest is None:
            self.assertIsNone(planner.plan())
            first, second, state = planner.twins()
            self.assertNotIn(".", state)
            for heights in (first, second):
                self.assertTrue(is_shape(walls, links, heights))
                self.assertLessEqual(len(misreads_of(planner.trials_of(state), heights)), misreads)
            self.assertNotEqual(wish.answer(first), wish.answer(second))
        else:
            self.assertIsNone(planner.twins())
            self.assertEqual(length(start, planner.plan()), fewest)
        self.assertEqual(book.get(start, 0), 7 if fewest is None else fewest)
        for state, number in random.Random(563).sample(sorted(book.items()), min(len(book), 25)):
            self.assertGreater(len(answers(state)), 1)
            for at in range(len(menu)):
                if state[at] == ".":
                    behind = [book.get(state[:at] + sign + state[at + 1:], 0) for sign in "rm"]
                    self.assertGreaterEqual(max(behind), number - 1)
        return fewest

    def test_drawn_sites(self):
        draw = random.Random(569)
        with time_limit(200):
            for unit, wrong, slack in [(30, 4, 0), (10**38, 0, 0), (10**38, 6, 1), (10**38, 15, 4)]:
                walls, links, heights = large_site(draw, unit)
                site = Site(walls, links)
                trials = trials_about(draw, heights, 40, 2 * unit, wrong)
                misreads = fewest_misread(site, trials) + slack
                first, second = draw.sample(range(24), 2)
                cuts = [[heights[at] + step * unit // 4 for step in range(-3, 4)] for at in (first, second)]
                wish = Band(first, *cuts[0]) & Band(second, *cuts[1])
                self.assertEqual(len(wish.cases()), 64)
                menu = [(at, heights[at] + draw.randint(-unit // 2, unit // 2)) for at in (first, second) * 3]
                planner = Planner(site, trials, wish, menu, misreads=misreads)
                self.check_planner(walls, links, planner, wish, trials, menu, misreads)

    def test_six_tries(self):
        unit = 10**38
        walls = [(name, 90 * unit, 0, (1,) * 5) for name in ("north", "east", "south", "west")]
        links = [(0, 6, -HUGE, HUGE)] * 40
        site = Site(walls, links)
        with time_limit(60):
            for cuts, tries in [(1, 1), (2, 2), (3, 2), (5, 3), (6, 3)]:
                heights = [(10 + 10 * at) * unit for at in range(6)]
                menu = [(0, height) for height in heights]
                wish = Band(0, *heights[:cuts])
                planner = Planner(site, [], wish, menu)
                self.assertEqual(self.check_planner(walls, links, planner, wish, [], menu, 0), tries)
            menu = [(0, 40 * unit)] * 6
            for misreads, tries in [(0, 1), (1, 3), (2, 5), (3, None)]:
                wish = Band(3, 40 * unit)
                planner = Planner(site, [], wish, menu, misreads=misreads)
                self.assertEqual(self.check_planner(walls, links, planner, wish, [], menu, misreads), tries)
            wish = AllWithin(*[(place, 50 * unit) for place in (0, 7, 13, 19)])
            menu = [(place, 50 * unit) for place in (1, 8, 13, 20)] + [(1, 60 * unit), (8, 40 * unit)]
            planner = Planner(site, [], wish, menu)
            self.assertEqual(self.check_planner(walls, links, planner, wish, [], menu, 0), 4)

    def test_all_states_of_a_dense_list(self):
        unit = 10**38
        walls = [(name, HUGE, HUGE, (1,) * 5) for name in ("north", "east", "south", "west")]
        site = Site(walls, [(0, 6, -HUGE, HUGE)] * 40)
        trials = [missed(0, 50 * unit + at) for at in range(20)] + [reached(0, 40 * unit + at) for at in range(20)]
        cuts = [(10 + 10 * at) * unit for at in range(7)]
        wish = Band(0, *cuts) & Band(7, *cuts)
        menu = [(at, height * unit) for at in (0, 7) for height in (10, 30, 60)]
        with time_limit(60):
            for misreads in (20, 22, 26):
                planner = Planner(site, trials, wish, menu, misreads=misreads)
                self.assertIsNone(self.check_planner(walls, links=[(0, 6, -HUGE, HUGE)], planner=planner, wish=wish,
                                                     trials=trials, menu=menu, misreads=misreads))
                for signs in product(".rm", repeat=6):
                    planner.answers("".join(signs))
        self.assertFalse(has_shape(24, told_of(walls, []), [trials[0], trials[20]]))


if __name__ == "__main__":
    unittest.main()
