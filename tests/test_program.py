"""Points [1] and [2] over the whole program: how its functions and methods are called."""

import ast
import copy
import inspect
import unittest
from pathlib import Path

from samples import HUGE, ErrorChecks, missed, reached, rows_of

from rungbounds.bounds import Bounds
from rungbounds.crew import Crew
from rungbounds.heights import never_foot, shortest_sure, stretches, sure_foot, within
from rungbounds.ladders import Ladder, Rack, farthest_foot, reach
from rungbounds.listing import fitting, next_shape
from rungbounds.misread import best_shape, fewest_misread, find_blames, find_suspects, trust
from rungbounds.notation import read_site, read_trials, write_site, write_trials
from rungbounds.papers import (
    chain_sum,
    check_blames,
    check_height,
    check_plan,
    check_shape,
    check_stall,
    check_twins,
    height_paper,
)
from rungbounds.plans import Planner
from rungbounds.sites import Site
from rungbounds.trials import Trial, misread_numbers, pinned
from rungbounds.wishes import AllWithin, Band, Both, Wish

PACKAGE = Path(__file__).resolve().parent.parent / "rungbounds"

# The modules in the order of the document: each one needs only modules above it.
MODULES = ["errors", "ladders", "sites", "trials", "misread", "bounds", "heights", "listing", "wishes", "plans",
           "papers", "notation", "crew"]

WALLS = [("north", 10, 2, (1, 3)), ("south", 6, 1, ())]
LINKS = [(2, 3, -1, 4)]
TRIALS = [reached(0, 6), missed(2, 3), reached(3, 5), missed(0, 8)]
SURE = [reached(3, 4)]
SITE = Site(WALLS, LINKS)
RACK = Rack(ash=5, birch=3, cedar=7)
WISH = Band(0, 3, 5)
MENU = [(0, 3), (0, 5)]
BOOK = {"..": 1}


def calls():
    """List calls as tuples: a function, its arguments before the `*` in order, and those behind it."""
    site, trials = ("site", SITE), ("trials", TRIALS)
    most, sure = {"misreads": 1}, {"sure": SURE}
    planned = [site, trials, ("wish", WISH), ("menu", MENU)]
    planner = Planner(SITE, TRIALS, WISH, MENU, misreads=1)
    return [
        (reach, [("length", 13), ("foot", 5)], {}),
        (farthest_foot, [("length", 13), ("height", 12)], {}),
        (Ladder, [("length", 13), ("parts", 2)], {}),
        (RACK.lengths, [("most", 2)], {}),
        (RACK.names_for, [("length", 7), ("most", 2)], {}),
        (Site, [("walls", WALLS), ("links", LINKS)], {}),
        (Site.plain, [("count", 3), ("top", 9), ("slope", 2)], {}),
        (SITE.place_of, [("name", "north"), ("index", 2)], {}),
        (SITE.told, [("first", -1), ("second", 3)], {}),
        (SITE.limit, [("first", -1), ("second", 3)], {}),
        (SITE.chain, [("first", -1), ("second", 3)], {}),
        (SITE.fits, [("heights", [4, 4, 4, 4])], {}),
        (Trial, [("place", 1), ("height", 2), ("reached", True)], {}),
        (Trial.leant, [("place", 1), ("ladder", Ladder(5)), ("foot", 3), ("reached", False)], {}),
        (TRIALS[0].agrees, [("heights", [4, 4, 4, 4])], {}),
        (misread_numbers, [trials, ("heights", [9, 7, 1, 2])], {}),
        (pinned, [("place", 1), ("height", 2)], {}),
        (fewest_misread, [site, trials], sure),
        (find_blames, [site, trials], sure),
        (find_suspects, [site, trials], sure),
        (best_shape, [site, trials], sure),
        (trust, [site, trials, ("number", 3)], most),
        (Bounds, [site, ("trials", TRIALS[:3])], {}),
        (Bounds(SITE).high_paper, [("place", 2)], {}),
        (Bounds(SITE).low_paper, [("place", 2)], {}),
        (stretches, [site, trials, ("place", 0)], {**most, **sure}),
        (within, [site, trials, ("place", 0), ("height", 6)], most),
        (sure_foot, [site, trials, ("place", 0), ("length", 13)], most),
        (never_foot, [site, trials, ("place", 0), ("length", 13)], most),
        (shortest_sure, [site, trials, ("place", 3), ("rack", RACK)], {"foot": 1, "most": 2, **most}),
        (next_shape, [site, trials, ("heights", [5, 5, 5, 5])], most),
        (fitting, [site, trials], {"most": 3, **most}),
        (Band(0, 3, 5).answer, [("heights", [4, 4, 4, 4])], {}),
        (WISH.possible, [site, trials], most),
        (WISH.settled, [site, trials], most),
        (WISH.witness, [site, trials, ("answer", 1)], most),
        (Both, [("first", WISH), ("second", AllWithin((1, 3)))], {}),
        (Planner, planned, most),
        (planner.after, [("state", ".."), ("number", 1), ("reached", False)], {}),
        (planner.trials_of, [("state", "r.")], {}),
        (planner.answers, [("state", "r.")], {}),
        (planner.fewest, [("state", "..")], {}),
        (planner.best, [("state", "..")], {}),
        (planner.plan, [("state", "r.")], {}),
        (chain_sum, [site, ("chain", [-1, 0, 1])], {}),
        (check_shape, [site, trials, ("heights", [6, 5, 4, 4])], {**most, **sure}),
        (check_blames, [site, trials, ("blames", [(3, 0)])], sure),
        (height_paper, [site, trials, ("place", 0), ("height", 7)], most),
        (check_height, [site, trials, ("place", 0), ("height", 7), ("paper", ("blames", [(0,), (3,)]))], most),
        (check_plan, [*planned, ("plan", ("try", 0, ("settled", 0), None))], most),
        (check_stall, [*planned, ("book", BOOK)], most),
        (check_twins, [*planned, ("twins", ([4, 4, 4, 4], [4, 4, 4, 4], "rr"))], most),
        (write_site, [site], {}),
        (write_trials, [trials], {}),
        (read_site, [("text", "wall a 5 1")], {}),
        (read_trials, [("text", "trial 0 1 missed")], {}),
    ]


def shown(value):
    """Return what two calls can be compared by."""
    if isinstance(value, Planner):
        return value.start(), shown(value.trials_of(None)), value.answers(), value.plan(), value.stall(), value.twins()
    if isinstance(value, Site):
        return value.walls(), value.links()
    if isinstance(value, Bounds):
        return value.lows(), value.highs()
    if isinstance(value, Ladder):
        return repr(value)
    if isinstance(value, Rack):
        return [(name, value.length_of(name)) for name in value.names()]
    if isinstance(value, Wish):
        return value.size, value.places(), [(answer, rows_of(trials)) for answer, trials in value.cases()]
    if isinstance(value, Trial):
        return rows_of([value])
    if isinstance(value, (list, tuple)):
        return value.__class__, [shown(part) for part in value]
    if inspect.isgenerator(value):
        return list(value)
    return value


class CallTest(ErrorChecks):
    def test_by_position_and_by_name(self):
        for function, before, behind in calls():
            with self.subTest(str(function)):
                told = shown(function(*[value for _, value in before], **behind))
                for count in range(len(before)):
                    named = {**behind, **dict(before[count:])}
                    positions = [value for _, value in before[:count]]
                    for names in (list(named), list(named)[::-1]):
                        self.assertEqual(shown(function(*positions, **{name: named[name] for name in names})), told)

    def test_by_keyword_only(self):
        for function, before, behind in calls():
            if behind:
                with self.subTest(str(function)), self.assertRaises(TypeError):
                    function(*[value for _, value in before], *list(behind.values())[:1])

    def test_lists_and_tuples(self):
        for function, before, behind in calls():
            with self.subTest(str(function)):
                told = shown(function(**dict(before), **behind))
                for kind in (tuple, list):
                    given = {**dict(before), **behind}
                    for name in ("trials", "sure", "walls", "links"):
                        if name in given:
                            given[name] = kind(given[name])
                    self.assertEqual(shown(function(**given)), told)

    def test_arguments_are_left_as_they_are(self):
        for function, before, behind in calls():
            with self.subTest(str(function)):
                given = {**dict(before), **behind}
                kept = {name: copy.deepcopy(shown(value)) for name, value in given.items()}
                shown(function(**given))
                self.assertEqual({name: shown(value) for name, value in given.items()}, kept)

    def test_returned_lists_are_new(self):
        for function, before, behind in calls():
            given = {**dict(before), **behind}
            told = function(**given)
            if isinstance(told, (list, dict)):
                with self.subTest(str(function)):
                    kept = copy.deepcopy(shown(told))
                    self.assertIsNot(function(**given), told)
                    told.clear()
                    self.assertEqual(shown(function(**given)), kept)

    def test_names_with_stars(self):
        crew = Crew(ash=5, site=SITE)
        crew.put_mark(place=0, name="left")
        self.assertEqual(crew.record("left", True, "ash", foot=3), 0)
        self.assertEqual(crew.forget(number=0).height, 4)
        self.assertEqual(Band(place=0).places(), [0])

    def test_long_numbers_make_longer_ones(self):
        # Sums and products of numbers of 40 digits have more digits.
        site = Site([("a", HUGE, HUGE, (HUGE,))], [(0, 1, -HUGE, HUGE)])
        self.assertEqual(chain_sum(Site([("a", HUGE, HUGE, (HUGE,))]), [0, 1]), HUGE * HUGE)
        trials = [missed(0, -HUGE), reached(1, HUGE)]
        self.assertEqual(stretches(site, trials, 0), [(0, HUGE)])
        self.assertEqual(next_shape(site, trials, [HUGE, HUGE - 1]), [HUGE, HUGE])
        self.assertEqual(Planner(site, trials, Band(0, HUGE - 1), [(0, HUGE - 1), (1, -HUGE)]).fewest(), 1)
        self.assertEqual(height_paper(site, trials, 0, HUGE + 1), ("limit", [-1, 0]))


class ModulesTest(unittest.TestCase):
    def test_modules_need_those_above_them_only(self):
        for at, name in enumerate(MODULES):
            tree = ast.parse((PACKAGE / f"{name}.py").read_text(encoding="ascii"))
            for node in ast.walk(tree):
                if isinstance(node, ast.ImportFrom) and node.module.startswith("rungbounds."):
                    self.assertIn(node.module.partition(".")[2], MODULES[:at])

    def test_no_clock_no_chance_and_no_files(self):
        self.assertEqual({path.stem for path in PACKAGE.glob("*.py")}, {*MODULES, "__init__"})
        for path in PACKAGE.glob("*.py"):
            for node in ast.walk(ast.parse(path.read_text(encoding="ascii"))):
                if isinstance(node, ast.ImportFrom):
                    self.assertIn(node.module.partition(".")[0], ("rungbounds", "math"))


if __name__ == "__main__":
    unittest.main()
