"""Points [13] and [14]: trials, and which of them a list of heights misreads."""

import copy
import inspect
import random
import unittest
from itertools import product

from samples import HUGE, ErrorChecks, drawn_trials

from rungbounds.errors import BadNumber, NoPlace
from rungbounds.ladders import Ladder, reach
from rungbounds.trials import Trial, misread_numbers, pinned


def told_by(trial):
    return trial.place, trial.height, trial.reached


class TrialTest(ErrorChecks):
    def test_attributes_as_given(self):
        for place, height, reached in [(2, 7, True), (0, 0, False), (-3, -HUGE, True), (HUGE, HUGE, False)]:
            trial = Trial(place, height, reached)
            self.assertEqual(told_by(trial), (place, height, reached))
            self.assertIs(trial.reached, reached)

    def test_names_of_arguments(self):
        trial = Trial(reached=False, height=5, place=1)
        self.assertEqual(told_by(trial), (1, 5, False))
        self.assertIs(trial.agrees(heights=[0, 6]), True)
        leant = Trial.leant(reached=True, foot=5, ladder=Ladder(13), place=4)
        self.assertEqual(told_by(leant), (4, 12, True))
        self.assertEqual(misread_numbers(heights=[0, 5], trials=[trial]), [0])
        self.assertEqual([told_by(part) for part in pinned(height=3, place=1)], [(1, 3, True), (1, 2, False)])

    def test_agrees_at_the_height_and_beside_it(self):
        for height in (-5, -1, 0, 1, 7, HUGE, -HUGE):
            reached, missed = Trial(1, height, True), Trial(1, height, False)
            for heights, below in ([3, height - 1, 9], True), ([3, height, 9], True), ([3, height + 1, 9], False):
                self.assertIs(reached.agrees(heights), below)
                self.assertIs(missed.agrees(heights), not below)

    def test_agrees_asks_its_own_place(self):
        heights = [1, 5, 9, 13]
        for place, height in enumerate(heights):
            others = [height for _ in heights]
            others[place] = height + 1
            for reached in (True, False):
                trial = Trial(place, height, reached)
                self.assertEqual((trial.agrees(heights), trial.agrees(others)), (reached, not reached))
        self.assertEqual(heights, [1, 5, 9, 13])

    def test_agrees_with_heights_that_are_no_shape(self):
        self.assertIs(Trial(0, -4, True).agrees([-4]), True)
        self.assertIs(Trial(0, -4, False).agrees([-4]), False)

    def test_no_such_index(self):
        for reached in (True, False):
            for heights in ([], [4], [4, 5, 6]):
                for place in (-HUGE, -3, -2, -1, len(heights), len(heights) + 1, HUGE):
                    self.assert_raises(NoPlace, place, Trial(place, 4, reached).agrees, heights)

    def test_opposite(self):
        for place, height in [(0, 0), (3, -8), (-1, HUGE)]:
            for reached in (True, False):
                trial = Trial(place, height, reached)
                other = ~trial
                self.assertIs(other.__class__, Trial)
                self.assertEqual(told_by(other), (place, height, not reached))
                self.assertIs(other.reached, not reached)
                self.assertIsNot(other, trial)
                self.assertEqual(told_by(trial), (place, height, reached))
                self.assertEqual(told_by(~other), (place, height, reached))
                self.assertEqual(told_by(other), (place, height, not reached))
                self.assertTrue(~~trial == trial)

    def test_a_list_agrees_with_a_trial_or_its_opposite(self):
        for height in range(-2, 6):
            for own in range(6):
                trial = Trial(0, height, own % 2 == 0)
                self.assertIs(trial.agrees([own]), not (~trial).agrees([own]))

    def test_equal_compares_all_three(self):
        trials = [Trial(*told) for told in product((0, 1), (1, 2, -1), (True, False))]
        for at, first in enumerate(trials):
            for other, second in enumerate(trials):
                again = Trial(*told_by(second))
                self.assertIs(first == again, at == other)
                self.assertIs(first != again, at != other)

    def test_equal_long_numbers(self):
        self.assertIs(Trial(HUGE, HUGE, True) == Trial(HUGE, 10**40 - 1, True), True)
        self.assertIs(Trial(HUGE, HUGE, True) == Trial(HUGE, HUGE - 1, True), False)

    def test_not_equal_to_other_kinds(self):
        class Like:
            place, height, reached = 2, 7, True

        trial = Trial(2, 7, True)
        for other in (None, 2, "2 7 reached", (2, 7, True), [2, 7, True], {"place": 2}, Like(), Ladder(7), Trial):
            self.assertIs(trial == other, False)
            self.assertIs(other == trial, False)
            self.assertIs(trial != other, True)

    def test_text(self):
        self.assertEqual(str(Trial(2, 7, True)), "2 7 reached")
        self.assertEqual(str(Trial(2, 7, False)), "2 7 missed")
        self.assertEqual(str(Trial(0, 0, False)), "0 0 missed")
        self.assertEqual(str(Trial(-3, -12, True)), "-3 -12 reached")
        self.assertEqual(str(Trial(-3, -12, False)), "-3 -12 missed")
        self.assertEqual(str(~Trial(1, HUGE, False)), "1 " + 40 * "9" + " reached")

    def test_leant(self):
        self.assertEqual(told_by(Trial.leant(4, Ladder(13), 5, True)), (4, 12, True))
        self.assertEqual(told_by(Trial.leant(4, Ladder(13), 4, False)), (4, 12, False))
        self.assertEqual(told_by(Trial.leant(-2, Ladder(5) + Ladder(9), 0, True)), (-2, 13, True))
        self.assertIs(Trial.leant(0, Ladder(1), 0, True).__class__, Trial)
        self.assertTrue(inspect.ismethod(Trial.leant))
        for length in range(7):
            for foot in range(9):
                for reached in (True, False):
                    trial = Trial.leant(1, Ladder(length, 3), foot, reached)
                    self.assertEqual(told_by(trial), (1, reach(length, foot), reached))
                    self.assertIs(trial.reached, reached)

    def test_leant_from_beyond_the_length(self):
        for reached in (True, False):
            self.assertEqual(told_by(Trial.leant(0, Ladder(6), 6, reached)), (0, 0, reached))
            self.assertEqual(told_by(Trial.leant(0, Ladder(6), 7, reached)), (0, -1, reached))
            self.assertEqual(told_by(Trial.leant(0, Ladder(0), HUGE, reached)), (0, -1, reached))

    def test_leant_long_numbers(self):
        trial = Trial.leant(HUGE, Ladder(5 * 10**38), 3 * 10**38, False)
        self.assertEqual(told_by(trial), (HUGE, 4 * 10**38, False))
        self.assertEqual(told_by(Trial.leant(0, Ladder(HUGE), 0, True)), (0, HUGE, True))

    def test_leant_with_a_negative_foot(self):
        for foot in (-1, -7, -HUGE):
            for length in (0, 6, HUGE):
                self.assert_raises(BadNumber, foot, Trial.leant, 0, Ladder(length), foot, True)
                self.assert_raises(BadNumber, foot, Trial.leant, -1, Ladder(length), foot, False)

    def test_leant_leaves_the_ladder(self):
        ladder = Ladder(13, 2)
        Trial.leant(0, ladder, 5, True)
        self.assertEqual((ladder.length, ladder.parts), (13, 2))


class MisreadNumbersTest(ErrorChecks):
    def test_ascending(self):
        trials = [Trial(1, 4, True), Trial(0, 4, False), Trial(0, 5, False), Trial(1, 6, True), Trial(1, 7, False)]
        self.assertEqual(misread_numbers(trials, [5, 6]), [0, 2, 4])
        self.assertEqual(misread_numbers(trials, [6, 8]), [0, 3])
        self.assertEqual(misread_numbers(trials, [0, 0]), [1, 2, 4])
        self.assertEqual(misread_numbers([Trial(0, 9, False), Trial(0, 1, True)], [5]), [0, 1])

    def test_equal_trials_count_by_their_own_index(self):
        twice = Trial(0, 3, True)
        self.assertEqual(misread_numbers([twice, Trial(0, 3, True), Trial(0, 4, True), twice], [4]), [0, 1, 3])
        self.assertEqual(misread_numbers([twice, ~twice, twice, ~twice], [3]), [1, 3])

    def test_empty_lists(self):
        for heights in ([], [4], [-1, 7]):
            numbers = misread_numbers([], heights)
            self.assertIs(numbers.__class__, list)
            self.assertEqual(numbers, [])

    def test_lists_and_tuples(self):
        trials = [Trial(0, 3, True), Trial(0, 9, False)]
        for given in (trials, tuple(trials)):
            numbers = misread_numbers(given, [4])
            self.assertIs(numbers.__class__, list)
            self.assertEqual(numbers, [0, 1])
            self.assertEqual(misread_numbers(given, [3]), [1])

    def test_against_agrees(self):
        draw = random.Random(5)
        for _ in range(100):
            heights = [draw.randint(-2, 6) for _ in range(3)]
            trials = drawn_trials(draw, 3, draw.randint(0, 9), 6)
            expected = [
                number
                for number, trial in enumerate(trials)
                if (heights[trial.place] <= trial.height) != trial.reached
            ]
            self.assertEqual(misread_numbers(trials, heights), expected)

    def test_forty_trials_with_long_numbers(self):
        trials = [Trial(at % 2, HUGE - at, at % 3 == 0) for at in range(40)]
        expected = [at for at in range(40) if (at % 3 == 0) == (at > 10)]
        self.assertEqual(misread_numbers(trials, [HUGE - 10, HUGE - 10]), expected)

    def test_first_trial_whose_place_is_no_index(self):
        good, misread = Trial(0, 4, True), Trial(1, 4, False)
        for place in (-HUGE, -2, -1, 2, 3, HUGE):
            for reached in (True, False):
                bad, worse = Trial(place, 4, reached), Trial(9, 4, reached)
                for trials in ([bad], [good, bad, worse], [misread, bad, good], [misread, misread, bad, worse, bad]):
                    self.assert_raises(NoPlace, place, misread_numbers, trials, [4, 4])
                    self.assert_raises(NoPlace, place, misread_numbers, tuple(trials), [4, 4])
        self.assert_raises(NoPlace, 0, misread_numbers, [good, misread], [])
        self.assert_raises(NoPlace, 1, misread_numbers, [good, misread], [9])

    def test_nothing_is_changed(self):
        trials = [Trial(0, 3, True), Trial(1, 3, False), Trial(0, 3, True)]
        kept, told = list(trials), [told_by(trial) for trial in trials]
        heights = [4, 4]
        misread_numbers(trials, heights).append(7)
        self.assertEqual((trials, [told_by(trial) for trial in trials], heights), (kept, told, [4, 4]))
        self.assertEqual(misread_numbers(trials, heights), [0, 2])


class PinnedTest(ErrorChecks):
    def test_two_trials(self):
        for place, height in [(0, 0), (2, 5), (-1, -4), (HUGE, HUGE), (1, 10**39)]:
            trials = pinned(place, height)
            self.assertIs(trials.__class__, list)
            self.assertTrue(all(trial.__class__ is Trial for trial in trials))
            self.assertEqual([told_by(trial) for trial in trials], [(place, height, True), (place, height - 1, False)])
            self.assertEqual([trial.reached for trial in trials], [True, False])

    def test_just_that_height_agrees(self):
        for height in (-3, 0, 1, 6, HUGE, 10**39):
            for rise in (-2, -1, 0, 1, 2):
                for heights in ([0, height + rise], [height, height + rise, height]):
                    self.assertEqual(misread_numbers(pinned(1, height), heights) == [], rise == 0)

    def test_every_list_is_new(self):
        first = pinned(0, 3)
        kept = copy.copy(first)
        second = pinned(0, 3)
        second.clear()
        self.assertEqual(first, kept)
        self.assertEqual([told_by(trial) for trial in pinned(0, 3)], [(0, 3, True), (0, 2, False)])


if __name__ == "__main__":
    unittest.main()
