"""Points [34] and [35]: sites and lists of trials as lines of words."""

import random
import unittest

from samples import HUGE, ErrorChecks, drawn_trials, large_site, missed, reached, rows_of, small_site

from rungbounds.errors import BadLine, BadName, BadNumber, NoPlace, NoSite, TakenName, TooMany
from rungbounds.notation import read_site, read_trials, write_site, write_trials
from rungbounds.sites import Site
from rungbounds.trials import Trial

SITE_TEXT = "wall north 10 2 1 3\nwall south 6 1\nlink 2 3 -1 4"
TRIALS_TEXT = "trial 2 7 reached\ntrial 0 -3 missed"

# Words that are not written like numbers of at most 40 digits.
NO_NUMBERS = ("", "-", "-0", "+1", "+0", "01", "00", "-01", "-00", "1.0", "1_0", "1e3", "0x1", "x", "1x", "x1", "--1", "1-",
              "one", "-" + 41 * "1", 41 * "1", "1" + 40 * "0", "0" + 40 * "1", "'1'", "1,", "1\t", "\u0661", "\u00b2")
NUMBERS = (0, 1, -1, 9, 10, -10, 123, HUGE, -HUGE, 10**39, -10**39)


def with_word(line, at, word):
    words = line.split(" ")
    words[at] = word
    return " ".join(words)


class WriteTest(ErrorChecks):
    def test_sites(self):
        site = Site([("north", 10, 2, (1, 3)), ("south", 6, 1, ())], [(2, 3, -1, 4)])
        self.assertEqual(write_site(site), SITE_TEXT)
        self.assertEqual(write_site(site=Site([("a", 0, 0, ())])), "wall a 0 0")
        self.assertEqual(write_site(Site([])), "")
        site = Site([("a", HUGE, HUGE, (HUGE, 1))], [(0, 1, -HUGE, 0), (1, 0, 0, HUGE), (0, 1, -HUGE, 0)])
        nines = 40 * "9"
        links = f"link 0 1 -{nines} 0\nlink 1 0 0 {nines}\nlink 0 1 -{nines} 0"
        self.assertEqual(write_site(site), f"wall a {nines} {nines} {nines} 1\n{links}")

    def test_links_stand_behind_all_walls(self):
        site = Site([("a", 5, 1, ()), ("b", 5, 1, ()), ("c", 5, 0, (2,))], [(1, 0, -3, 3), (3, 1, 0, 5)])
        self.assertEqual(write_site(site), "wall a 5 1\nwall b 5 1\nwall c 5 0 2\nlink 1 0 -3 3\nlink 3 1 0 5")

    def test_trials(self):
        for trials in ([reached(2, 7), missed(0, -3)], (reached(2, 7), missed(0, -3))):
            self.assertEqual(write_trials(trials), TRIALS_TEXT)
        self.assertEqual((write_trials([]), write_trials(())), ("", ""))
        self.assertEqual(write_trials(trials=[missed(-4, HUGE)]), "trial -4 " + 40 * "9" + " missed")
        self.assertEqual(write_trials([reached(0, 0)] * 2), "trial 0 0 reached\ntrial 0 0 reached")

    def test_nothing_is_changed(self):
        trials = [reached(2, 7), missed(0, -3)]
        write_trials(trials)
        self.assertEqual(rows_of(trials), [(2, 7, True), (0, -3, False)])


class ReadBackTest(ErrorChecks):
    def test_drawn_sites(self):
        draw = random.Random(701)
        for at in range(120):
            walls, links, _ = small_site(draw, 5, 4, 3) if at < 100 else large_site(draw, 10**38)
            site = read_site(write_site(Site(walls, links)))
            self.assertIs(site.__class__, Site)
            self.assertEqual((site.walls(), site.links()), (walls, links))
            self.assertTrue(all(row.__class__ is tuple for row in site.walls() + site.links()))
            self.assertEqual(write_site(site), write_site(Site(walls, links)))

    def test_drawn_trials(self):
        draw = random.Random(709)
        for count in range(41):
            trials = drawn_trials(draw, 9, count, draw.choice([5, 10**38]))
            found = read_trials(write_trials(trials))
            self.assertIs(found.__class__, list)
            self.assertTrue(all(trial.__class__ is Trial for trial in found))
            self.assertEqual(rows_of(found), rows_of(trials))
            self.assertTrue(all(trial.reached in (True, False) for trial in found))

    def test_by_hand(self):
        site = read_site(SITE_TEXT)
        self.assertEqual(site.walls(), [("north", 10, 2, (1, 3)), ("south", 6, 1, ())])
        self.assertEqual((site.links(), site.size), ([(2, 3, -1, 4)], 4))
        self.assertEqual(rows_of(read_trials(text=TRIALS_TEXT)), [(2, 7, True), (0, -3, False)])
        self.assertEqual(read_site(text="wall a 5 0").walls(), [("a", 5, 0, ())])

    def test_empty_text(self):
        site = read_site("")
        self.assertEqual((site.walls(), site.links(), site.size), ([], [], 0))
        self.assertEqual(read_trials(""), [])

    def test_every_list_is_new(self):
        read_trials(TRIALS_TEXT).clear()
        self.assertEqual(len(read_trials(TRIALS_TEXT)), 2)

    def test_numbers(self):
        for number in NUMBERS:
            for place in NUMBERS:
                trials = read_trials(f"trial {place} {number} missed")
                self.assertEqual(rows_of(trials), [(place, number, False)])
        self.assertEqual(read_site("wall a " + 40 * "9" + " 0").top_of(0), HUGE)
        site = read_site(f"wall a 5 0 {HUGE}\nlink 0 1 {-HUGE} {HUGE}")
        self.assertEqual((site.walls(), site.links()), ([("a", 5, 0, (HUGE,))], [(0, 1, -HUGE, HUGE)]))


class BadLineTest(ErrorChecks):
    def assert_bad(self, read, good, line):
        """Check that a line is refused alone, and as any line of a text."""
        if line:
            self.assert_raises(BadLine, 1, read, line)
        lines = good.split("\n")
        for at in range(len(lines) + 1):
            self.assert_raises(BadLine, at + 1, read, "\n".join(lines[:at] + [line] + lines[at:]))
            self.assert_raises(BadLine, at + 1, read, "\n".join(lines[:at] + [line] + lines[at:] + [line, "x"]))

    def test_numbers_in_trials(self):
        for word in NO_NUMBERS:
            for at in (1, 2):
                self.assert_bad(read_trials, TRIALS_TEXT, with_word("trial 2 7 reached", at, word))

    def test_numbers_in_sites(self):
        good = "wall north 10 2 1 3\nwall south 6 1"
        for word in NO_NUMBERS:
            for at in (2, 3, 4, 5):
                self.assert_bad(read_site, good, with_word("wall west 9 1 2 3", at, word))
            for at in (1, 2, 3, 4):
                self.assert_bad(read_site, SITE_TEXT, with_word("link 0 1 2 3", at, word))

    def test_lines_of_no_form(self):
        for line in (
            "", " ", "  ", "x", "wall", "wall a", "wall a 1", "link", "link 0", "link 0 1", "link 0 1 2", "link 0 1 2 3 4",
            "Wall a 1 1", "WALL a 1 1", "walls a 1 1", "Link 0 1 2 3", "wall  a 1 1", "wall a  1 1", "wall a 1  1", "wall a 1 1  1",
            " wall a 1 1", "wall a 1 1 ", "wall a 1 1 1 ", "wall a 1 1 x", "wall  1 1", "wall  1 1 1", " link 0 1 2 3",
            "link 0 1 2 3 ", "link  0 1 2 3", "link 0 1 2  3", "trial 0 1 reached", "# wall", "wall a one 1", "link a b 0 1",
            "wall\ta 1 1", "wall a 1 1\t", "wall a 1 1\r", "1 1 1 1", "0 1 2 3 4", "a 1 1 1",
        ):
            self.assert_bad(read_site, SITE_TEXT.split("\n")[0], line)
        for line in (
            "", " ", "  ", "x", "trial", "trial 0", "trial 0 1", "trial 0 reached", "trial 0 1 2 reached", "trial 0 1 reached x",
            "Trial 0 1 reached", "trial 0 1 Reached", "trial 0 1 hit", "trial 0 1 r", "trial 0 1 True", "trial 0 1 1", "trial 0 1 ",
            " trial 0 1 missed", "trial 0 1 missed ", "trial  0 1 missed", "trial 0  1 missed", "trial 0 1  missed", "trial 0 1 misse",
            "trial 0 1 missedd", "trial reached 1 0", "wall a 1 1", "link 0 1 2 3", "0 1 reached", "trials 0 1 reached", "trial,0,1,missed",
        ):
            self.assert_bad(read_trials, TRIALS_TEXT, line)

    def test_empty_lines(self):
        for read, good in [(read_site, SITE_TEXT), (read_trials, TRIALS_TEXT)]:
            count = len(good.split("\n"))
            self.assert_raises(BadLine, count + 1, read, good + "\n")
            self.assert_raises(BadLine, count + 1, read, good + "\n\n")
            self.assert_raises(BadLine, 1, read, "\n" + good)
            self.assert_raises(BadLine, 1, read, "\n")
            self.assert_raises(BadLine, 1, read, "\n\n")
            self.assert_raises(BadLine, 2, read, good.replace("\n", "\n\n", 1))

    def test_wall_after_a_link(self):
        self.assert_raises(BadLine, 4, read_site, SITE_TEXT + "\nwall west 3 1")
        self.assert_raises(BadLine, 2, read_site, "link 0 1 0 0\nwall a 3 1 1")
        self.assert_raises(BadLine, 3, read_site, "wall a 3 1 1\nlink 0 1 0 0\nwall b 3 1\nlink 0 1 0 0\nx")
        self.assert_raises(BadLine, 3, read_site, "wall a 3 1 1\nlink 0 1 0 0\nwall A -3 1")

    def test_ahead_of_what_the_site_raises(self):
        for lines in (
            ["wall A 1 1"], ["wall a 1 1", "wall a 1 1"], ["wall a -1 1"], ["wall a 1 1 0"], ["link 0 1 0 0"], ["wall a 4 1 1", "link 0 1 2 3"],
            ["wall a 1 1" + 24 * " 1"],
        ):
            for bad in ("x", "", "wall b 1", "link 0 1 2"):
                self.assert_raises(BadLine, len(lines) + 1, read_site, "\n".join([*lines, bad]))
                self.assert_raises(BadLine, 1, read_site, "\n".join([bad, *lines]))

    def test_long_lines(self):
        self.assert_raises(BadLine, 3, read_trials, "\n".join(["trial 0 1 reached"] * 2 + ["trial 0 " + 5000 * "1" + " missed"]))
        self.assertEqual(len(read_trials("\n".join(["trial 0 1 reached"] * 500))), 500)
        self.assert_raises(BadLine, 501, read_trials, "\n".join(["trial 0 1 reached"] * 500 + ["trial 0 01 reached"]))


class SiteErrorsTest(ErrorChecks):
    def test_any_word_may_stand_for_a_name(self):
        for name in ("North", "12", "0", "-1", "a1", "wall", "link", "-", "#", "abcdefghijklm", "a.b", "01", "+1", "'a'", 41 * "1"):
            if name.isalpha() and name.islower() and len(name) < 13:
                self.assertEqual(read_site(f"wall {name} 3 1").names(), [name])
            else:
                self.assert_raises(BadName, name, read_site, f"wall {name} 3 1")
                self.assert_raises(BadName, name, read_site, f"wall a 3 1\nwall {name} -3 -1 0\nlink 9 9 0 0")

    def test_what_the_constructor_raises(self):
        self.assert_raises(TakenName, "a", read_site, "wall a 3 1\nwall b 3 1\nwall a -3 1")
        self.assert_raises(BadNumber, -3, read_site, "wall a -3 -1 0\nlink 9 9 0 0")
        self.assert_raises(BadNumber, -1, read_site, "wall a 3 -1 0\nlink 9 9 0 0")
        self.assert_raises(BadNumber, 0, read_site, "wall a 3 1 2 0 -1\nlink 9 9 0 0")
        self.assert_raises(TooMany, 25, read_site, "wall a 3 1" + 24 * " 1" + "\nlink 99 9 0 0")
        self.assert_raises(NoPlace, 9, read_site, "wall a 3 1 1\nlink 9 8 0 0")
        self.assert_raises(NoPlace, 8, read_site, "wall a 3 1 1\nlink 0 8 0 0")
        self.assert_raises(NoPlace, -1, read_site, "wall a 3 1 1\nlink -1 8 0 0")
        self.assert_raises(NoPlace, 0, read_site, "link 0 1 0 0")
        with self.assertRaises(NoSite):
            read_site("wall north 4 1 1\nlink 0 1 2 3")

    def test_trials_of_any_place_and_height(self):
        found = read_trials(f"trial -7 {-HUGE} reached\ntrial {HUGE} 0 missed")
        self.assertEqual(rows_of(found), [(-7, -HUGE, True), (HUGE, 0, False)])


if __name__ == "__main__":
    unittest.main()
