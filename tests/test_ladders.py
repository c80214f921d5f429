"""Points [3] to [7]: ladders, joins and racks."""

import random
import unittest
from itertools import combinations

from samples import HUGE, ErrorChecks

from rungbounds.errors import BadName, BadNumber, TakenName, TooMany, UnknownName
from rungbounds.ladders import Ladder, Rack, farthest_foot, joined_length, reach

# Lengths of 40 digits, among them hypotenuses of whole triangles and their neighbours.
LONG = [HUGE, 10**39, 10**39 + 7, 5 * 10**38, 5 * 10**38 - 1, 5 * 10**38 + 1, 1234567890123456789012345678901234567891]


class ReachTest(ErrorChecks):
    def check_reach(self, length, foot):
        height = reach(length, foot)
        self.assertGreaterEqual(height, 0)
        self.assertLessEqual(height * height + foot * foot, length * length)
        self.assertLess(length * length, (height + 1) * (height + 1) + foot * foot)

    def test_told_examples(self):
        self.assertEqual([reach(13, 5), reach(13, 12), reach(13, 4), reach(2, 1)], [12, 5, 12, 1])

    def test_small_numbers(self):
        for length in range(40):
            for foot in range(length + 1):
                self.check_reach(length, foot)

    def test_long_numbers(self):
        for length in LONG:
            for foot in (0, 1, 2, 3 * 10**38, 4 * 10**38, length // 2, length // 3, length - 1, length):
                if foot <= length:
                    self.check_reach(length, foot)
        self.assertEqual(reach(5 * 10**38, 3 * 10**38), 4 * 10**38)
        self.assertEqual(reach(5 * 10**38 - 1, 3 * 10**38), 4 * 10**38 - 2)

    def test_foot_at_the_length_and_beyond(self):
        for length in (0, 1, 2, 7, *LONG):
            self.assertEqual(reach(length, length), 0)
            self.assertEqual(reach(length, length + 1), -1)
            self.assertEqual(reach(length, length + 2), -1)
        self.assertEqual(reach(3, HUGE), -1)

    def test_foot_left_out(self):
        for length in (0, 1, 2, 9, *LONG):
            self.assertEqual(reach(length), length)

    def test_names_of_arguments(self):
        self.assertEqual(reach(foot=5, length=13), 12)

    def test_errors(self):
        self.assert_raises(BadNumber, -1, reach, -1)
        self.assert_raises(BadNumber, -HUGE, reach, -HUGE, 3)
        self.assert_raises(BadNumber, -2, reach, 5, -2)
        self.assert_raises(BadNumber, -1, reach, 0, -1)
        self.assert_raises(BadNumber, -7, reach, -7, -2)
        self.assert_raises(BadNumber, -7, reach, -7, 2)


class FarthestFootTest(ErrorChecks):
    def check_foot(self, length, height):
        foot = farthest_foot(length, height)
        self.assertGreaterEqual(foot, 0)
        self.assertLessEqual(foot, length)
        self.assertGreaterEqual(reach(length, foot), height)
        if foot < length:
            self.assertLess(reach(length, foot + 1), height)

    def test_small_numbers(self):
        for length in range(30):
            for height in range(-3, length + 4):
                feet = [foot for foot in range(length + 1) if reach(length, foot) >= max(height, 0)]
                self.assertEqual(farthest_foot(length, height), max(feet, default=-1))

    def test_long_numbers(self):
        for length in LONG:
            for height in (0, 1, 3 * 10**38, 4 * 10**38, length // 2, length // 3, length - 1, length):
                if height <= length:
                    self.check_foot(length, height)
            self.assertEqual(farthest_foot(length, HUGE + 1), -1)

    def test_edges(self):
        for length in (0, 1, 2, 7, *LONG):
            self.assertEqual(farthest_foot(length, 0), length)
            self.assertEqual(farthest_foot(length, -1), length)
            self.assertEqual(farthest_foot(length, -HUGE), length)
            self.assertEqual(farthest_foot(length, length), 0)
            self.assertEqual(farthest_foot(length, length + 1), -1)

    def test_names_of_arguments(self):
        self.assertEqual(farthest_foot(height=12, length=13), 5)

    def test_errors(self):
        self.assert_raises(BadNumber, -1, farthest_foot, -1, 0)
        self.assert_raises(BadNumber, -2, farthest_foot, -2, -5)
        self.assert_raises(BadNumber, -2, farthest_foot, -2, 5)


class JoinedLengthTest(ErrorChecks):
    def test_joins(self):
        self.assertEqual(Ladder.OVERLAP, 1)
        self.assertEqual(joined_length(), 0)
        self.assertEqual([joined_length(length) for length in (0, 1, 2, HUGE)], [0, 1, 2, HUGE])
        self.assertEqual(joined_length(2, 2), 3)
        self.assertEqual(joined_length(5, 3, 7), 13)
        self.assertEqual(joined_length(7, 5, 3), 13)
        self.assertEqual(joined_length(4, 4, 4, 4, 4), 16)
        self.assertEqual(joined_length(HUGE, HUGE, 2), 2 * HUGE)

    def test_errors(self):
        self.assert_raises(BadNumber, -1, joined_length, -1)
        self.assert_raises(BadNumber, 1, joined_length, 1, 5)
        self.assert_raises(BadNumber, 1, joined_length, 5, 1)
        self.assert_raises(BadNumber, 0, joined_length, 5, 0, -3, 1)
        self.assert_raises(BadNumber, -3, joined_length, 5, 2, -3, 1)
        self.assert_raises(BadNumber, 1, joined_length, 5, 2, 1, -3)


class LadderTest(ErrorChecks):
    def test_attributes(self):
        ladder = Ladder(7)
        self.assertEqual(vars(ladder), {"length": 7, "parts": 1})
        self.assertEqual(vars(Ladder(7, 2)), {"length": 7, "parts": 2})
        self.assertEqual(vars(Ladder(parts=3, length=0)), {"length": 0, "parts": 3})
        self.assertEqual((ladder.OVERLAP, Ladder.OVERLAP), (1, 1))

    def test_errors(self):
        self.assert_raises(BadNumber, -1, Ladder, -1)
        self.assert_raises(BadNumber, -HUGE, Ladder, -HUGE, 2)

    def test_equality_is_by_length_alone(self):
        self.assertTrue(Ladder(7, 2) == Ladder(7))
        self.assertFalse(Ladder(7, 2) != Ladder(7))
        self.assertFalse(Ladder(7) == Ladder(8))
        self.assertFalse(Ladder(7, 2) == Ladder(8, 2))
        self.assertTrue(Ladder(7) != Ladder(8))
        self.assertFalse(Ladder(7) == 7)
        self.assertFalse(7 == Ladder(7))
        self.assertFalse(Ladder(7) == "Ladder(7, 1)")
        self.assertFalse(Ladder(7) == None)  # noqa: E711

    def test_order_is_by_length_alone(self):
        self.assertIs(Ladder(6, 9) < Ladder(7), True)
        self.assertIs(Ladder(7) < Ladder(7, 2), False)
        self.assertIs(Ladder(8) < Ladder(7, 2), False)
        self.assertIs(Ladder(8) > Ladder(7, 2), True)
        self.assertEqual([ladder.length for ladder in sorted([Ladder(5), Ladder(3), Ladder(4)])], [3, 4, 5])
        with self.assertRaises(TypeError):
            Ladder(7) < 8  # noqa: B015

    def test_join(self):
        first, second, third = Ladder(5), Ladder(3, 2), Ladder(HUGE, 3)
        self.assertEqual(vars(first + second), {"length": 7, "parts": 3})
        self.assertEqual(vars((first + second) + third), {"length": HUGE + 6, "parts": 6})
        self.assertEqual(vars(first + (second + third)), {"length": HUGE + 6, "parts": 6})
        self.assertEqual(vars(first), {"length": 5, "parts": 1})
        self.assertEqual(vars(second), {"length": 3, "parts": 2})
        self.assertEqual(vars(Ladder(2) + Ladder(2)), {"length": 3, "parts": 2})
        self.assertIs((first + second).__class__, Ladder)

    def test_errors_of_a_join(self):
        self.assert_raises(BadNumber, 1, lambda: Ladder(1) + Ladder(5))
        self.assert_raises(BadNumber, 1, lambda: Ladder(5) + Ladder(1))
        self.assert_raises(BadNumber, 0, lambda: Ladder(0) + Ladder(1))
        self.assert_raises(BadNumber, 1, lambda: Ladder(1) + Ladder(0))
        with self.assertRaises(TypeError):
            Ladder(5) + 5  # noqa: B018

    def test_call(self):
        ladder = Ladder(13, 2)
        self.assertEqual([ladder(5), ladder(foot=12), ladder(), ladder(0), ladder(13), ladder(14)], [12, 5, 13, 13, 0, -1])
        self.assert_raises(BadNumber, -1, ladder, -1)
        self.assert_raises(BadNumber, -1, ladder, foot=-1)

    def test_repr(self):
        self.assertEqual(repr(Ladder(7, 2)), "Ladder(7, 2)")
        self.assertEqual(repr(Ladder(0)), "Ladder(0, 1)")
        self.assertEqual(repr(Ladder(HUGE)), f"Ladder({HUGE}, 1)")


def joins_of(rack, most):
    """List all joins as (number of ladders, indexes, names, length), by a plain listing."""
    names = rack.names()
    found = []
    for parts in range(1, min(most, len(names)) + 1):
        for indexes in combinations(range(len(names)), parts):
            lengths = [rack.length_of(names[at]) for at in indexes]
            if parts == 1 or min(lengths) > 1:
                found.append((parts, indexes, [names[at] for at in indexes], sum(lengths) - parts + 1))
    return found


def rack_of(*lengths):
    rack = Rack()
    for at, length in enumerate(lengths):
        rack.put("hgfedcbaz"[at], length)
    return rack


class RackTest(ErrorChecks):
    def assert_rack(self, rack, lengths):
        self.assertEqual(rack.names(), list(lengths))
        self.assertEqual([rack.length_of(name) for name in lengths], list(lengths.values()))
        self.assertEqual(len(rack), len(lengths))

    def test_keywords_and_put(self):
        self.assert_rack(Rack(), {})
        rack = Rack(cedar=7, ash=0, birch=HUGE)
        self.assert_rack(rack, {"cedar": 7, "ash": 0, "birch": HUGE})
        self.assertIsNone(rack.put("aspen", 4))
        self.assertIsNone(rack.put(length=5, name="self"))
        self.assertIsNone(rack.put("name", 7))
        self.assert_rack(rack, {"cedar": 7, "ash": 0, "birch": HUGE, "aspen": 4, "self": 5, "name": 7})
        self.assert_rack(Rack(lengths=3, name=4, length=5), {"lengths": 3, "name": 4, "length": 5})

    def test_passed_dict_is_copied(self):
        lengths = {"ash": 5, "birch": 3}
        rack = Rack(**lengths)
        lengths["cedar"] = 4
        rack.put("oak", 9)
        self.assert_rack(rack, {"ash": 5, "birch": 3, "oak": 9})
        self.assertEqual(lengths, {"ash": 5, "birch": 3, "cedar": 4})

    def test_racks_share_nothing(self):
        first, second = Rack(), Rack()
        first.put("ash", 5)
        self.assert_rack(second, {})

    def test_good_names(self):
        names = ["a", "z", "abcdefghijkl", "mnopqrstuvwx", "yz"]
        rack = Rack()
        for name in names:
            rack.put(name, 3)
        self.assertEqual(rack.names(), names)

    def test_bad_names(self):
        for name in ("", "abcdefghijklm", "Ash", "asH", "A", "Z", "ash2", "0", "a b", " a", "a ", "a_b", "a-b", "{", "`", "~", "a.", "@"):
            with self.subTest(name):
                rack = Rack(ash=5)
                self.assert_raises(BadName, name, rack.put, name, 3)
                self.assert_rack(rack, {"ash": 5})
                self.assertFalse(name in rack)
                self.assert_raises(BadName, name, Rack, **{"ash": 5, name: 3})

    def test_errors_of_put_in_order(self):
        rack = Rack(ash=5, birch=3)
        self.assert_raises(BadName, "Ash", rack.put, "Ash", -1)
        self.assert_raises(TakenName, "ash", rack.put, "ash", 4)
        self.assert_raises(TakenName, "birch", rack.put, "birch", -4)
        self.assert_raises(BadNumber, -1, rack.put, "cedar", -1)
        self.assert_rack(rack, {"ash": 5, "birch": 3})
        self.assertFalse("cedar" in rack)

    def test_full_rack(self):
        lengths = {letter: 3 for letter in "abcdefgh"}
        rack = Rack(**lengths)
        self.assert_rack(rack, lengths)
        self.assert_raises(TooMany, 9, rack.put, "i", 3)
        self.assert_raises(TooMany, 9, rack.put, "i", 0)
        self.assert_raises(BadNumber, -1, rack.put, "i", -1)
        self.assert_raises(TakenName, "h", rack.put, "h", -1)
        self.assert_raises(BadName, "I", rack.put, "I", -1)
        self.assert_rack(rack, lengths)

    def test_eight_by_put_and_one_more(self):
        rack = Rack(a=2)
        for letter in "bcdefgh":
            rack.put(letter, 3)
        self.assertEqual(len(rack), 8)
        self.assert_raises(TooMany, 9, rack.put, "i", 3)
        self.assertEqual(len(rack), 8)

    def test_errors_of_keywords(self):
        self.assert_raises(TooMany, 9, Rack, **{letter: 3 for letter in "abcdefghi"})
        self.assert_raises(TooMany, 10, Rack, **{letter: -3 for letter in "ABCdefghij"})
        self.assert_raises(BadNumber, -1, Rack, ash=3, birch=-1, Cedar=-2)
        self.assert_raises(BadName, "Cedar", Rack, ash=3, Cedar=-2, birch=-1)

    def test_names_length_of_and_in(self):
        rack = Rack(ash=5, birch=3)
        rack.names().append("cedar")
        self.assertEqual(rack.names(), ["ash", "birch"])
        self.assertEqual(rack.length_of(name="birch"), 3)
        self.assertIs("ash" in rack, True)
        self.assertIs("cedar" in rack, False)
        self.assertIs("as" in rack, False)
        self.assertIs("Ash" in rack, False)
        self.assert_raises(UnknownName, "cedar", rack.length_of, "cedar")
        self.assert_raises(UnknownName, "", rack.length_of, "")

    def test_joined(self):
        rack = Rack(ash=5, birch=3, cedar=7, twig=1, stub=0)
        self.assertEqual(vars(rack.joined("cedar", "ash")), {"length": 11, "parts": 2})
        self.assertEqual(vars(rack.joined("ash", "birch", "cedar")), {"length": 13, "parts": 3})
        self.assertEqual(vars(rack.joined("twig")), {"length": 1, "parts": 1})
        self.assertEqual(vars(rack.joined("stub")), {"length": 0, "parts": 1})
        self.assertIs(rack.joined("ash").__class__, Ladder)
        self.assertEqual(len(rack), 5)

    def test_errors_of_joined_in_order(self):
        rack = Rack(ash=5, birch=3, cedar=7, twig=1, stub=0)
        self.assert_raises(UnknownName, "oak", rack.joined, "ash", "ash", "oak", "elm")
        self.assert_raises(UnknownName, "oak", rack.joined, "oak", "oak")
        self.assert_raises(TakenName, "birch", rack.joined, "ash", "birch", "birch", "ash")
        self.assert_raises(TakenName, "twig", rack.joined, "twig", "twig")
        self.assert_raises(TakenName, "ash", rack.joined, "twig", "ash", "ash")
        self.assert_raises(BadNumber, 0, rack.joined)
        self.assert_raises(BadNumber, 0, Rack().joined)
        self.assert_raises(BadNumber, 1, rack.joined, "ash", "twig", "stub")
        self.assert_raises(BadNumber, 0, rack.joined, "stub", "twig")

    def check_joins(self, rack):
        for most in (-5, -1, 0, 1, 2, 3, 5, 7, 8, 9, 100, HUGE):
            joins = joins_of(rack, most)
            lengths = sorted({length for _, _, _, length in joins})
            self.assertEqual(rack.lengths(most), lengths)
            for length in [*lengths, -1, 0, 1, 2, HUGE]:
                best = min([join for join in joins if join[3] == length], default=(0, (), [], 0))
                self.assertEqual(rack.names_for(length, most), best[2])

    def test_joins_against_a_listing(self):
        for lengths in (
            (), (0,), (1,), (2,), (0, 1), (1, 0, 2), (1, 2, 2), (0, 2, 0, 3), (2, 2), (2, 2, 2, 2), (5, 3, 7),
            (7, 5, 3), (9, 4, 6, 3), (0, 9, 1, 4, 6), (10, 6, 5, 7, 4, 8, 3), (HUGE, HUGE - 1, 2, 3, 10**39),
        ):
            with self.subTest(lengths):
                self.check_joins(rack_of(*lengths))

    def test_drawn_joins_against_a_listing(self):
        draw = random.Random(7)
        for _ in range(60):
            lengths = [draw.randint(0, 9) for _ in range(draw.randint(2, 8))]
            with self.subTest(lengths):
                self.check_joins(rack_of(*lengths))

    def test_eight_ladders_up_to_all(self):
        rack = rack_of(2, 3, 5, 9, 17, 33, 65, 129)
        self.assertEqual(rack.lengths(8), list(range(2, 257)))
        self.assertEqual(rack.names_for(256, 8), rack.names())
        self.assertEqual(rack.names_for(256, 7), [])
        self.check_joins(rack)

    def test_most_left_out(self):
        rack = Rack(ash=5, birch=3, cedar=7, aspen=5)
        self.assertEqual(rack.lengths(), [3, 5, 7])
        self.assertEqual(rack.names_for(7), ["cedar"])
        self.assertEqual(rack.names_for(9), [])
        self.assertEqual(rack.names_for(length=9, most=2), ["ash", "aspen"])
        self.assertEqual(rack.lengths(most=2), [3, 5, 7, 9, 11])

    def test_fewest_ladders_then_the_order_of_put(self):
        rack = Rack(birch=3, ash=5, cedar=7, aspen=5)
        self.assertEqual(rack.names_for(7, 3), ["cedar"])
        self.assertEqual(rack.names_for(5, 3), ["ash"])
        self.assertEqual(rack.names_for(11, 2), ["ash", "cedar"])
        # 8 is 4 + 5 - 1 and 6 + 3 - 1: the join with the ladder that was put first wins.
        self.assertEqual(rack_of(4, 6, 3, 5).names_for(8, 2), ["h", "e"])
        self.assertEqual(rack_of(6, 4, 5, 3).names_for(8, 2), ["h", "e"])
        # With the same first ladder the second one decides, then the third.
        self.assertEqual(rack_of(4, 5, 5).names_for(8, 2), ["h", "g"])
        self.assertEqual(rack_of(4, 5, 9, 9).names_for(16, 3), ["h", "g", "f"])

    def test_ladder_put_behind_a_question(self):
        rack = Rack(ash=5, birch=3)
        self.assertEqual((rack.lengths(2), rack.names_for(9, 2)), ([3, 5, 7], []))
        rack.put("cedar", 7)
        self.assertEqual((rack.lengths(2), rack.names_for(9, 2)), ([3, 5, 7, 9, 11], ["birch", "cedar"]))
        rack.lengths(2).append(99)
        rack.names_for(9, 2).append("oak")
        self.assertEqual((rack.lengths(2), rack.names_for(9, 2)), ([3, 5, 7, 9, 11], ["birch", "cedar"]))
        self.assertEqual(rack.names(), ["ash", "birch", "cedar"])


if __name__ == "__main__":
    unittest.main()
