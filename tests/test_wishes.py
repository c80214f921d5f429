"""Points [25] to [27]: questions about the shape."""

import random
import unittest
from itertools import product

from samples import (
    HUGE,
    ErrorChecks,
    allowed,
    drawn_trials,
    drawn_wish,
    fewest_of,
    has_shape,
    is_shape,
    large_site,
    misreads_of,
    missed,
    reached,
    rows_of,
    shapes_of,
    small_site,
    time_limit,
    told_of,
    trials_about,
    wide_site,
)

from rungbounds.errors import BadNumber, NoPlace
from rungbounds.misread import fewest_misread
from rungbounds.sites import Site
from rungbounds.trials import Trial
from rungbounds.wishes import AllWithin, Band, Both, SomeWithin, Wish

WALLS = [("a", 5, 2, (1,)), ("b", 4, 9, ())]
LINKS = [(1, 2, 0, 3)]


def rows_of_cases(wish):
    return [(answer, rows_of(trials)) for answer, trials in wish.cases()]


class KindChecks(ErrorChecks):
    def assert_kind(self, wish, kind, size, places, cases):
        """Check everything about a wish but its answers."""
        self.assertIs(wish.__class__, kind)
        self.assertTrue(isinstance(wish, Wish))
        self.assertEqual(vars(wish)["size"], size)
        self.assertIs(wish.places().__class__, list)
        self.assertEqual(wish.places(), places)
        self.assertIs(wish.cases().__class__, list)
        for case in wish.cases():
            self.assertIs(case.__class__, tuple)
            self.assertIs(case[0].__class__, int)
            self.assertIs(case[1].__class__, list)
            self.assertTrue(all(trial.__class__ is Trial for trial in case[1]))
        self.assertEqual(rows_of_cases(wish), cases)
        self.assert_kept(wish)

    def assert_kept(self, wish):
        """Check that lists which were returned can be changed."""
        places, cases = wish.places(), rows_of_cases(wish)
        wish.places().append(77)
        for _, trials in wish.cases():
            trials.append(reached(77, 7))
        wish.cases().clear()
        self.assertEqual((wish.places(), rows_of_cases(wish)), (places, cases))

    def assert_answers(self, wish, size, answer, top):
        """Check the answers for all lists of heights, and that the cases tell just them."""
        for row in product(range(-1, top + 1), repeat=size):
            heights = list(row)
            self.assertEqual(wish.answer(heights), answer(heights))
            told = {number for number, trials in wish.cases() if not misreads_of(trials, heights)}
            self.assertEqual(told, {answer(heights)})
            self.assertIn(answer(heights), range(wish.size))


class WishTest(KindChecks):
    def test_asks_nothing(self):
        self.assert_kind(Wish(), Wish, 1, [], [(0, [])])
        self.assert_answers(Wish(), 2, lambda heights: 0, 3)
        self.assertEqual(Wish().answer([]), 0)

    def test_size_as_given(self):
        self.assertEqual([Wish(3).size, Wish(size=7).size], [3, 7])

    def test_is_settled_everywhere(self):
        for walls in ([], WALLS):
            site = Site(walls)
            self.assertEqual((Wish().possible(site, []), Wish().settled(site, [])), ([0], 0))
            self.assertTrue(site.fits(Wish().witness(site, [], 0)))
            self.assertIsNone(Wish().witness(site, [], 1))


class AllWithinTest(KindChecks):
    def test_cases(self):
        wish = AllWithin((2, 5), (0, 3), (2, 5), (0, -4))
        cases = [
            (1, [(2, 5, True), (0, 3, True), (2, 5, True), (0, -4, True)]),
            (0, [(2, 5, False)]),
            (0, [(0, 3, False)]),
            (0, [(2, 5, False)]),
            (0, [(0, -4, False)]),
        ]
        self.assert_kind(wish, AllWithin, 2, [2, 0, 2, 0], cases)
        self.assert_kind(AllWithin((1, HUGE)), AllWithin, 2, [1], [(1, [(1, HUGE, True)]), (0, [(1, HUGE, False)])])

    def test_without_pairs(self):
        self.assert_kind(AllWithin(), AllWithin, 2, [], [(1, [])])
        self.assert_answers(AllWithin(), 1, lambda heights: 1, 3)
        self.assertEqual(AllWithin().possible(Site([]), []), [1])

    def test_answers_at_the_heights(self):
        wish = AllWithin((0, 2), (1, 3))
        for heights in ([1, 3], [2, 3], [2, 2], [0, 0], [-1, -1]):
            self.assertEqual(wish.answer(heights), 1)
        for heights in ([3, 3], [2, 4], [3, 4], [HUGE, 0], [0, HUGE]):
            self.assertEqual(wish.answer(heights), 0)
        self.assert_answers(wish, 2, lambda heights: int(heights[0] <= 2 and heights[1] <= 3), 5)

    def test_eight_pairs(self):
        wish = AllWithin(*[(at % 3, at) for at in range(8)])
        self.assertEqual((wish.places(), len(wish.cases())), ([0, 1, 2, 0, 1, 2, 0, 1], 9))
        self.assert_answers(wish, 3, lambda heights: int(heights[0] <= 0 and heights[1] <= 1 and heights[2] <= 2), 4)


class SomeWithinTest(KindChecks):
    def test_cases(self):
        wish = SomeWithin((2, 5), (0, 3), (2, 5))
        cases = [
            (1, [(2, 5, True)]),
            (1, [(0, 3, True)]),
            (1, [(2, 5, True)]),
            (0, [(2, 5, False), (0, 3, False), (2, 5, False)]),
        ]
        self.assert_kind(wish, SomeWithin, 2, [2, 0, 2], cases)
        self.assert_kind(SomeWithin((1, -7)), SomeWithin, 2, [1], [(1, [(1, -7, True)]), (0, [(1, -7, False)])])

    def test_without_pairs(self):
        self.assert_kind(SomeWithin(), SomeWithin, 2, [], [(0, [])])
        self.assert_answers(SomeWithin(), 1, lambda heights: 0, 3)
        self.assertEqual(SomeWithin().possible(Site([]), []), [0])

    def test_answers_at_the_heights(self):
        wish = SomeWithin((0, 2), (1, 3))
        for heights in ([2, 9], [1, 9], [9, 3], [9, 2], [2, 3], [-1, HUGE]):
            self.assertEqual(wish.answer(heights), 1)
        for heights in ([3, 4], [3, 9], [9, 4], [HUGE, HUGE]):
            self.assertEqual(wish.answer(heights), 0)
        self.assert_answers(wish, 2, lambda heights: int(heights[0] <= 2 or heights[1] <= 3), 5)


class BandTest(KindChecks):
    def test_cases(self):
        cases = [
            (0, [(1, -2, True)]),
            (1, [(1, -2, False), (1, 3, True)]),
            (2, [(1, 3, False), (1, 4, True)]),
            (3, [(1, 4, False)]),
        ]
        self.assert_kind(Band(1, -2, 3, 4), Band, 4, [1], cases)
        self.assert_kind(Band(0, 5), Band, 2, [0], [(0, [(0, 5, True)]), (1, [(0, 5, False)])])

    def test_without_cuts(self):
        self.assert_kind(Band(3), Band, 1, [3], [(0, [])])
        self.assert_answers(Band(0), 1, lambda heights: 0, 3)
        self.assert_raises(NoPlace, 3, Band(3).possible, Site.plain(3, 5, 1), [])

    def test_answers_at_the_cuts(self):
        wish = Band(1, 2, 3, 7)
        heights = [-1, 1, 2, 3, 4, 6, 7, 8, HUGE]
        self.assertEqual([wish.answer([0, height]) for height in heights], [0, 0, 0, 1, 2, 2, 2, 3, 3])
        self.assert_answers(wish, 2, lambda row: sum(cut < row[1] for cut in (2, 3, 7)), 9)

    def test_cuts_ascend_strictly(self):
        for cuts, bad in [((3, 3), 3), ((3, 2), 2), ((1, 5, 4), 4), ((5, 4, 4, 3), 4), ((0, -1), -1), ((1, 2, 2, 1), 2)]:
            self.assert_raises(BadNumber, bad, Band, 0, *cuts)
            # The place is not looked at before there is a site.
            self.assert_raises(BadNumber, bad, Band, -5, *cuts)
        self.assert_raises(BadNumber, HUGE - 1, Band, 0, HUGE, HUGE - 1)
        self.assertEqual(Band(0, -HUGE, -1, 0, HUGE).size, 5)

    def test_eight_cuts(self):
        wish = Band(0, *range(8))
        self.assertEqual((wish.size, len(wish.cases())), (9, 9))
        self.assertEqual([wish.answer([height]) for height in range(-1, 10)], [0, 0, 1, 2, 3, 4, 5, 6, 7, 8, 8])


class BothTest(KindChecks):
    def test_cases_in_both_orders(self):
        first, second = AllWithin((0, 3)), Band(1, 2, 5)
        cases = [
            (3, [(0, 3, True), (1, 2, True)]),
            (4, [(0, 3, True), (1, 2, False), (1, 5, True)]),
            (5, [(0, 3, True), (1, 5, False)]),
            (0, [(0, 3, False), (1, 2, True)]),
            (1, [(0, 3, False), (1, 2, False), (1, 5, True)]),
            (2, [(0, 3, False), (1, 5, False)]),
        ]
        for wish in (Both(first, second), first & second, Both(second=second, first=first)):
            self.assert_kind(wish, Both, 6, [0, 1], cases)
            self.assert_answers(wish, 2, lambda row: 3 * (row[0] <= 3) + (row[1] > 2) + (row[1] > 5), 7)
        turned = [
            (1, [(1, 2, True), (0, 3, True)]),
            (0, [(1, 2, True), (0, 3, False)]),
            (3, [(1, 2, False), (1, 5, True), (0, 3, True)]),
            (2, [(1, 2, False), (1, 5, True), (0, 3, False)]),
            (5, [(1, 5, False), (0, 3, True)]),
            (4, [(1, 5, False), (0, 3, False)]),
        ]
        for wish in (Both(second, first), second & first):
            self.assert_kind(wish, Both, 6, [1, 0], turned)
            self.assert_answers(wish, 2, lambda row: 2 * ((row[1] > 2) + (row[1] > 5)) + (row[0] <= 3), 7)

    def test_nested(self):
        one, two, three = SomeWithin((0, 1), (1, 1)), Band(0, 2), AllWithin((1, 3))
        for wish in ((one & two) & three, one & (two & three), Both(one, Both(two, three))):
            self.assertEqual((wish.size, wish.places(), len(wish.cases())), (8, [0, 1, 0, 1], 12))
            self.assert_kept(wish)
            self.assert_answers(
                wish, 2, lambda row: 4 * (min(row) <= 1) + 2 * (row[0] > 2) + (row[1] <= 3), 5)
        self.assertEqual(rows_of_cases((one & two) & three), rows_of_cases(one & (two & three)))

    def test_with_a_wish_that_asks_nothing(self):
        wish = Band(1, 2, 5)
        for both in (Wish() & wish, wish & Wish()):
            self.assertEqual((both.size, both.places(), rows_of_cases(both)), (3, [1], rows_of_cases(wish)))
        self.assert_kind(Wish() & Wish(), Both, 1, [], [(0, [])])
        self.assertEqual((AllWithin() & SomeWithin()).possible(Site([]), []), [2])
        self.assertEqual((SomeWithin() & AllWithin()).possible(Site([]), []), [1])

    def test_large_size_of_one_case(self):
        wish = AllWithin()
        for _ in range(63):
            wish = wish & AllWithin()
        self.assertEqual((wish.size, wish.possible(Site([]), [])), (2**64, [2**64 - 1]))
        self.assertEqual((wish.witness(Site([]), [], 2**64 - 1), wish.witness(Site([]), [], 0)), ([], None))

    def test_leaves_its_wishes(self):
        first, second = AllWithin((0, 3), (1, 2)), Band(1, 2, 5)
        both = first & second
        for _, trials in both.cases():
            trials.clear()
        both.places().clear()
        self.assertEqual((first.size, first.places(), len(first.cases()[0][1])), (2, [0, 1], 2))
        self.assertEqual((second.size, second.places(), len(second.cases()[1][1])), (3, [1], 2))

    def test_drawn_wishes(self):
        draw = random.Random(401)
        for _ in range(80):
            wish, answer = drawn_wish(draw, 2, 5)
            self.assert_answers(wish, 2, answer, 5)
            self.assert_kept(wish)


class AnswersTest(ErrorChecks):
    def check_answers(self, site, shapes, trials, misreads, wish, answer):
        """Check what is possible, settled and witnessed by a listing; return what is possible."""
        told = {"misreads": misreads} if misreads else {}
        left = allowed(shapes, trials, misreads)
        expected = sorted({answer(heights) for heights in left})
        found = wish.possible(site, trials, **told)
        self.assertIs(found.__class__, list)
        self.assertEqual(found, expected)
        self.assertEqual(wish.settled(site, trials, **told), expected[0] if len(expected) == 1 else None)
        for number in (-HUGE, -2, -1, *range(min(wish.size, 30)), wish.size, wish.size + 1, HUGE):
            heights = wish.witness(site, trials, number, **told)
            if number in expected:
                self.assertIs(heights.__class__, list)
                self.assertIn(heights, left)
                self.assertEqual(answer(heights), number)
            else:
                self.assertIsNone(heights)
        return expected

    def test_drawn_wishes(self):
        draw = random.Random(409)
        counts = []
        for at in range(120):
            walls, links, shapes = wide_site(draw, at % 2) if at % 4 == 0 else small_site(draw, 3, 5, at % 3)
            site = Site(walls, links)
            trials = drawn_trials(draw, site.size, draw.randint(0, 6), 5)
            given = trials if at % 3 else tuple(trials)
            for _ in range(3):
                wish, answer = drawn_wish(draw, site.size, 6)
                for misreads in (0, 1, 2, 7):
                    counts.append(len(self.check_answers(site, shapes, given, misreads, wish, answer)))
        for count in range(4):
            self.assertGreater(counts.count(count), 20)

    def test_by_hand(self):
        site = Site.plain(2, 20, 30)
        trials = [reached(0, 4), missed(0, 11)]
        wish = Band(0, 3, 8, 15)
        self.assertEqual([wish.possible(site, trials, misreads=most) for most in (0, 1, 2)], [[], [0, 1, 2, 3], [0, 1, 2, 3]])
        self.assertEqual(Band(0, 4, 11).possible(site, trials, misreads=1), [0, 2])
        self.assertEqual(Band(0, 4, 11).settled(site, trials[:1]), 0)
        self.assertEqual(Band(0, 4, 11).settled(site, trials[1:]), 2)
        self.assertIsNone(Band(0, 4, 11).settled(site, trials, misreads=1))
        self.assertIsNone(Band(0, 4, 11).settled(site, trials))
        self.assertIsNone(Band(0, 4, 11).witness(site, trials, 1, misreads=1))
        self.assertLessEqual(Band(0, 4, 11).witness(site, trials, 0, misreads=1)[0], 4)
        self.assertGreater(Band(0, 4, 11).witness(site, trials, 2, misreads=1)[0], 11)

    def test_allowance_left_out_is_zero(self):
        site, trials = Site.plain(1, 9, 0), [reached(0, 4)]
        wish = AllWithin((0, 4))
        self.assertEqual((wish.possible(site, trials), wish.settled(site, trials)), ([1], 1))
        self.assertEqual(wish.possible(site, trials, misreads=1), [0, 1])
        self.assertIsNone(wish.witness(site, trials, 0))
        self.assertGreater(wish.witness(site, trials, 0, misreads=1)[0], 4)
        for call in (wish.possible, wish.settled):
            with self.assertRaises(TypeError):
                call(site, trials, 0)
        with self.assertRaises(TypeError):
            wish.witness(site, trials, 0, 0)

    def test_names_of_arguments(self):
        site, trials = Site.plain(1, 9, 0), (reached(0, 4),)
        wish = Band(0, 4)
        self.assertEqual(wish.possible(misreads=1, trials=trials, site=site), [0, 1])
        self.assertEqual(wish.settled(misreads=0, trials=trials, site=site), 0)
        self.assertEqual(wish.witness(misreads=0, answer=1, trials=trials, site=site), None)
        self.assertEqual(wish.answer(heights=[5]), 1)
        self.assertEqual(Band(place=2).places(), [2])

    def test_nothing_is_changed(self):
        site, trials, heights = Site.plain(2, 9, 9), [reached(0, 4), missed(1, 4)], [4, 5]
        wish = AllWithin((0, 4)) & Band(1, 4, 6)
        kept = rows_of_cases(wish)
        wish.possible(site, trials, misreads=1).clear()
        wish.witness(site, trials, 4, misreads=1).clear()
        wish.answer(heights)
        self.assertEqual((rows_of(trials), heights, rows_of_cases(wish)), ([(0, 4, True), (1, 4, False)], [4, 5], kept))
        self.assertEqual(wish.possible(site, trials), [4, 5])

    def test_large_sites(self):
        draw = random.Random(419)
        counts = []
        with time_limit(120):
            for unit, wrong in [(20, 5), (10**38, 0), (10**38, 8), (10**38, 20)]:
                walls, links, heights = large_site(draw, unit)
                site, told = Site(walls, links), told_of(walls, links)
                trials = trials_about(draw, heights, 40, 2 * unit, wrong)
                fewest = fewest_misread(site, trials)
                first, second = draw.sample(range(24), 2)
                cuts = [[heights[at] + step * unit // 4 for step in range(-3, 4)] for at in (first, second)]
                wish = Band(first, *cuts[0]) & Band(second, *cuts[1])
                self.assertEqual((wish.size, len(wish.cases())), (64, 64))
                for misreads in (fewest, fewest + 2):
                    found = wish.possible(site, trials, misreads=misreads)
                    counts.append(len(found))
                    for answer, case in wish.cases():
                        shape = wish.witness(site, trials, answer, misreads=misreads)
                        self.assertIs(shape is not None, answer in found)
                        if shape is not None:
                            self.assertTrue(is_shape(walls, links, shape))
                            self.assertLessEqual(len(misreads_of(trials, shape)), misreads)
                            self.assertEqual((misreads_of(case, shape), wish.answer(shape)), ([], answer))
                        elif has_shape(24, told, case):
                            self.assertGreater(fewest_misread(site, trials, sure=case), misreads)
        self.assertGreater(max(counts), 8)


class OrderTest(ErrorChecks):
    def calls(self, wish, site, trials, **told):
        return [
            lambda: wish.possible(site, trials, **told),
            lambda: wish.settled(site, trials, **told),
            lambda: wish.witness(site, trials, 0, **told),
            lambda: wish.witness(site, trials, -1, **told),
            lambda: wish.witness(site, trials, HUGE, **told),
        ]

    def wishes_at(self, place):
        """Return wishes of each kind whose first place that is none is this one."""
        return [
            AllWithin((0, 3), (place, 3), (99, 3)),
            SomeWithin((place, 3), (99, 3), (0, 3)),
            Band(place, 3, 5),
            Band(place),
            Both(AllWithin((1, 3)), Band(place, 3)),
            Band(place, 3) & Band(98, 3),
            Wish() & (Band(1, 2) & SomeWithin((place, 2))),
        ]

    def test_places_of_the_wish(self):
        site = Site(WALLS, LINKS)
        for place in (-HUGE, -2, -1, 3, HUGE):
            for wish in self.wishes_at(place):
                for trials in ([], [reached(0, -1)], (reached(0, 3), missed(2, 1))):
                    for call in self.calls(wish, site, trials) + self.calls(wish, site, trials, misreads=1):
                        self.assert_raises(NoPlace, place, call)

    def test_places_of_trials_and_allowance_come_first(self):
        site = Site(WALLS, LINKS)
        for wish in [*self.wishes_at(7), *self.wishes_at(2), Wish(), AllWithin(), SomeWithin()]:
            for place in (-HUGE, -1, 3, HUGE):
                for trials in ([reached(place, 2), missed(9, 4)], (reached(0, -1), missed(place, 2))):
                    for call in self.calls(wish, site, trials, misreads=-1) + self.calls(wish, site, trials):
                        self.assert_raises(NoPlace, place, call)
            for misreads in (-1, -HUGE):
                for trials in ([], [reached(0, -1)]):
                    for call in self.calls(wish, site, trials, misreads=misreads):
                        self.assert_raises(BadNumber, misreads, call)

    def test_no_shape_is_no_error(self):
        site, shapes = Site(WALLS, LINKS), shapes_of(WALLS, LINKS)
        trials = [reached(0, -1), missed(2, 4)]
        self.assertEqual(fewest_of(shapes, trials), 2)
        for wish in (AllWithin((0, 3), (2, 3)), SomeWithin((2, 1)), Band(1, 2), Band(1, 2) & Band(2), Wish(), AllWithin()):
            for misreads in (0, 1):
                self.assertEqual(wish.possible(site, trials, misreads=misreads), [])
                self.assertIsNone(wish.settled(site, trials, misreads=misreads))
                self.assertIsNone(wish.witness(site, trials, wish.cases()[0][0], misreads=misreads))
            self.assertNotEqual(Wish().possible(site, trials, misreads=2), [])


if __name__ == "__main__":
    unittest.main()
