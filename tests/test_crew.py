"""Points [36] to [41]: the crew, its deeds, and what they leave."""

import random
import unittest

from samples import (
    HUGE,
    ErrorChecks,
    allowed,
    drawn_wish,
    fewest_of,
    missed,
    reached,
    rows_of,
    runs_of,
    shapes_of,
    small_site,
    wide_site,
)

from rungbounds.crew import Crew
from rungbounds.errors import (
    BadName,
    BadNumber,
    DeedFailed,
    LadderError,
    NoPlace,
    NoShape,
    NothingToRedo,
    NothingToUndo,
    TakenName,
    TooMany,
    UnknownName,
)
from rungbounds.heights import stretches, within
from rungbounds.ladders import Rack
from rungbounds.misread import fewest_misread
from rungbounds.plans import Planner
from rungbounds.sites import Site
from rungbounds.trials import Trial
from rungbounds.wishes import AllWithin, Band, Wish

WALLS = [("a", 20, 2, (1,)), ("b", 9, 9, ())]


def new_crew():
    """Return a crew with ladders and marks, which it has by four deeds."""
    crew = Crew(Site(WALLS), ash=5, birch=3, cedar=7, oak=1)
    for name, place in [("left", 0), ("right", 1), ("far", 2), ("top", 0)]:
        crew.put_mark(name, place)
    return crew


def everything(crew):
    """Return all that a crew tells of itself."""
    return (crew.misreads, rows_of(crew.recorded), crew.needed, crew.steps(), crew.history(), crew.marks(), crew.ladders(),
            len(crew))


class CrewChecks(ErrorChecks):
    def assert_refused(self, error, worth, crew, call, *args, **kwargs):
        """Check that the call raises this error and leaves the crew, and what it can undo and redo, as before."""
        before = everything(crew)
        self.assert_raises(error, worth, call, *args, **kwargs)
        self.assertEqual(everything(crew), before)

    def assert_row_refused(self, error, worth, crew, row):
        """Check a wrong row by do, run and replayed."""
        self.assert_refused(error, worth, crew, crew.do, row)
        self.assert_run_fails(error, worth, crew, [("mark", "right", 0), ("mark", "other", 1), row, ("mark", "left", 9)], 2)
        self.assert_run_fails(error, worth, crew, [row, row], 0)

    def assert_run_fails(self, error, worth, crew, rows, number):
        before = everything(crew)
        with self.assertRaises(DeedFailed) as caught:
            crew.run(rows)
        self.assertIs(caught.exception.__class__, DeedFailed)
        self.assertEqual(vars(caught.exception), {"row": number})
        cause = caught.exception.__cause__
        self.assertIs(cause.__class__, error)
        self.assertEqual(list(vars(cause).values()), [worth])
        self.assertEqual(everything(crew), before)

    def assert_new_deed(self, crew, row, result, call, *args, **kwargs):
        """Check that the call does one deed with this row and result."""
        before, (done, _) = crew.history(), crew.steps()
        told = call(*args, **kwargs)
        self.assertEqual(rows_of([told]) if told.__class__ is Trial else told, result)
        self.assertEqual((crew.history(), crew.steps()), ([*before, row], (done + 1, 0)))


class NewCrewTest(CrewChecks):
    def test_at_first(self):
        site = Site(WALLS)
        crew = Crew(site, ash=5, birch=3)
        self.assertIs(vars(crew)["site"], site)
        self.assertEqual(everything(crew), (0, [], 0, (0, 0), [], [], [("ash", 5), ("birch", 3)], 0))
        self.assertEqual(everything(Crew(site)), (0, [], 0, (0, 0), [], [], [], 0))
        self.assertIs(Crew(site=site, cedar=4).site, site)
        for row in (crew.recorded, crew.history(), crew.marks(), crew.ladders()):
            self.assertIs(row.__class__, list)
        self.assertIs(crew.steps().__class__, tuple)
        self.assertTrue(all(pair.__class__ is tuple for pair in crew.ladders()))

    def test_ladders_like_those_of_a_rack(self):
        site = Site(WALLS)
        nine = {letter: 3 for letter in "abcdefghi"}
        self.assert_raises(TooMany, 9, lambda: Crew(site, **nine))
        self.assert_raises(TooMany, 10, lambda: Crew(site, Ash=-1, **nine))
        self.assert_raises(BadName, "Ash", lambda: Crew(site, Ash=-1))
        self.assert_raises(BadNumber, -1, lambda: Crew(site, ash=-1, Birch=3))
        self.assert_raises(BadName, "abcdefghijklm", lambda: Crew(site, ash=2, abcdefghijklm=3))
        self.assertEqual(len(Crew(site, **dict(list(nine.items())[:8])).ladders()), 8)
        self.assertEqual(Crew(site, zoo=0, ash=HUGE).ladders(), [("zoo", 0), ("ash", HUGE)])
        self.assertEqual(Crew(site, rows=3, cls=4).ladders(), [("rows", 3), ("cls", 4)])

    def test_errors_of_replayed(self):
        site = Site(WALLS)
        self.assert_raises(BadName, "Ash", lambda: Crew.replayed(site, [("fly",)], Ash=3))
        self.assert_raises(BadNumber, -2, lambda: Crew.replayed(site, [], ash=-2))


class LadderDeedTest(CrewChecks):
    def test_put_ladder(self):
        crew = new_crew()
        self.assert_new_deed(crew, ("ladder", "pine", 4), None, crew.put_ladder, "pine", 4)
        self.assert_new_deed(crew, ("ladder", "elm", 0), None, crew.do, ("ladder", "elm", 0))
        self.assert_new_deed(crew, ("ladder", "yew", HUGE), None, crew.put_ladder, length=HUGE, name="yew")
        names = [("ash", 5), ("birch", 3), ("cedar", 7), ("oak", 1), ("pine", 4), ("elm", 0), ("yew", HUGE)]
        self.assertEqual(crew.ladders(), names)

    def test_names_that_are_no_keywords(self):
        crew = Crew(Site(WALLS))
        crew.put_mark("site", 1)
        for name, length in [("self", 5), ("site", 6), ("cls", 7), ("rows", 8), ("foot", 9), ("mark", 2), ("reached", 3), ("name", 4)]:
            crew.put_ladder(name, length)
        self.assertEqual([name for name, _ in crew.ladders()], ["self", "site", "cls", "rows", "foot", "mark", "reached", "name"])
        self.assertEqual(crew.record("site", True, "self", "site", "cls", foot=3), 0)
        self.assertEqual(rows_of(crew.recorded), [(1, 15, True)])
        crew.undo()
        crew.undo()
        self.assertEqual(len(crew.ladders()), 7)
        again = Crew.replayed(crew.site, crew.history())
        self.assertEqual(everything(again), (0, [], 0, (8, 0), crew.history(), crew.marks(), crew.ladders(), 0))

    def test_errors_in_order(self):
        crew = new_crew()
        for name in ("", "Ash", "a b", "a1", "abcdefghijklm", "-"):
            self.assert_refused(BadName, name, crew, crew.put_ladder, name, -1)
            self.assert_row_refused(BadName, name, crew, ("ladder", name, 3))
        self.assert_refused(TakenName, "ash", crew, crew.put_ladder, "ash", -1)
        self.assert_row_refused(TakenName, "ash", crew, ("ladder", "ash", 3))
        self.assert_refused(BadNumber, -1, crew, crew.put_ladder, "pine", -1)
        self.assert_row_refused(BadNumber, -HUGE, crew, ("ladder", "pine", -HUGE))
        for name in "abcd":
            crew.put_ladder(name, 4)
        self.assert_refused(TooMany, 9, crew, crew.put_ladder, "pine", 3)
        self.assert_row_refused(TooMany, 9, crew, ("ladder", "pine", 3))
        self.assert_refused(BadNumber, -1, crew, crew.put_ladder, "pine", -1)
        self.assert_refused(TakenName, "a", crew, crew.put_ladder, "a", 3)
        self.assert_refused(BadName, "A", crew, crew.put_ladder, "A", 3)

    def test_ladders_and_marks_have_separate_names(self):
        crew = new_crew()
        crew.put_ladder("left", 4)
        crew.put_mark("ash", 2)
        self.assertEqual((crew["left"], crew["ash"]), (0, 2))
        self.assertEqual(crew.ladders()[-1], ("left", 4))
        self.assertIs("birch" in crew, False)


class MarkDeedTest(CrewChecks):
    def test_put_mark(self):
        crew = Crew(Site(WALLS))
        self.assert_new_deed(crew, ("mark", "left", 0), None, crew.put_mark, "left", 0)
        self.assert_new_deed(crew, ("mark", "far", 2), None, crew.put_mark, place=2, name="far")
        self.assert_new_deed(crew, ("mark", "right", 1), None, crew.do, ("mark", "right", 1))
        self.assert_new_deed(crew, ("mark", "abcdefghijkl", 1), None, crew.__setitem__, "abcdefghijkl", 1)
        crew["late"] = 2
        self.assertEqual(crew.history()[-1], ("mark", "late", 2))
        names = [("left", 0), ("far", 2), ("right", 1), ("abcdefghijkl", 1), ("late", 2)]
        self.assertEqual(crew.marks(), names)
        self.assertTrue(all(pair.__class__ is tuple for pair in crew.marks()))
        self.assertEqual([crew[name] for name, _ in names], [place for _, place in names])
        self.assertEqual(["late" in crew, "lat" in crew, "" in crew, "Left" in crew], [True, False, False, False])

    def test_moved_marks_stay_in_their_order(self):
        crew = new_crew()
        self.assert_new_deed(crew, ("mark", "right", 0), None, crew.put_mark, "right", 0)
        crew["left"] = 2
        self.assertEqual(crew.marks(), [("left", 2), ("right", 0), ("far", 2), ("top", 0)])
        crew.undo()
        self.assertEqual(crew.marks(), [("left", 0), ("right", 0), ("far", 2), ("top", 0)])

    def test_mark_that_was_taken_back_is_put_anew(self):
        crew = Crew(Site(WALLS))
        crew["one"] = 0
        crew["two"] = 1
        crew.undo()
        crew.undo()
        crew["two"] = 2
        crew["one"] = 1
        self.assertEqual(crew.marks(), [("two", 2), ("one", 1)])

    def test_moving_a_mark_changes_no_trial(self):
        crew = new_crew()
        crew.record("left", True, "ash")
        crew.record("far", False, "birch")
        crew["left"] = 2
        crew["far"] = 1
        self.assertEqual(rows_of(crew.recorded), [(0, 5, True), (2, 3, False)])
        crew.record("left", False, "oak")
        self.assertEqual(rows_of(crew.recorded), [(0, 5, True), (2, 3, False), (2, 1, False)])

    def test_errors_in_order(self):
        crew = new_crew()
        for name in ("", "Ash", "a b", "a1", "abcdefghijklm", "_"):
            for place in (0, 3, -1):
                self.assert_refused(BadName, name, crew, crew.put_mark, name, place)
                self.assert_refused(BadName, name, crew, crew.__setitem__, name, place)
                self.assert_row_refused(BadName, name, crew, ("mark", name, place))
        for place in (-HUGE, -2, -1, 3, HUGE):
            for name in ("left", "new"):
                self.assert_refused(NoPlace, place, crew, crew.put_mark, name, place)
                self.assert_refused(NoPlace, place, crew, crew.__setitem__, name, place)
                self.assert_row_refused(NoPlace, place, crew, ("mark", name, place))
        for name in ("new", "", "Left", "ash"):
            self.assert_refused(UnknownName, name, crew, lambda: crew[name])

    def test_is_not_iterated_over(self):
        with self.assertRaises(TypeError):
            list(new_crew())


class RecordDeedTest(CrewChecks):
    def test_record(self):
        crew = new_crew()
        row = ("record", "left", True, ("ash", "cedar"), 4)
        self.assert_new_deed(crew, row, 0, crew.record, "left", True, "ash", "cedar", foot=4)
        self.assert_new_deed(crew, ("record", "far", False, ("birch",), 0), 1, crew.record, "far", False, "birch")
        self.assert_new_deed(crew, ("record", "right", True, ("oak",), 0), 2, crew.record, "right", True, "oak", foot=0)
        for names in (["cedar", "birch"], ("cedar", "birch")):
            row = ("record", "right", True, names, 1)
            self.assert_new_deed(crew, (*row[:3], ("cedar", "birch"), 1), len(crew), crew.do, row)
        trials = [(0, 10, True), (2, 3, False), (1, 1, True), (1, 8, True), (1, 8, True)]
        self.assertEqual((rows_of(crew.recorded), len(crew)), (trials, 5))
        self.assertTrue(all(trial.__class__ is Trial for trial in crew.recorded))
        self.assertEqual([trial.reached for trial in crew.recorded], [True, False, True, True, True])

    def test_foot_beyond_the_length(self):
        crew = new_crew()
        crew.misreads = 9
        crew.record("left", True, "ash", foot=5)
        crew.record("left", False, "ash", foot=6)
        self.assertEqual(rows_of(crew.recorded), [(0, 0, True), (0, -1, False)])
        self.assert_refused(BadNumber, 1, crew, crew.record, "left", False, "oak", "ash")

    def test_errors_in_order(self):
        crew = new_crew()
        for mark in ("new", "", "Left", "ash"):
            for names in ((), ("elm", "elm"), ("ash",)):
                self.assert_refused(UnknownName, mark, crew, crew.record, mark, True, *names, foot=-1)
                self.assert_row_refused(UnknownName, mark, crew, ("record", mark, True, names, -1))
        for names, error, worth in [
            (("ash", "elm", "ash", "fir"), UnknownName, "elm"),
            (("Ash",), UnknownName, "Ash"),
            (("ash", "oak", "birch", "oak", "ash"), TakenName, "oak"),
            (("ash", "ash"), TakenName, "ash"),
            ((), BadNumber, 0),
            (("ash", "oak"), BadNumber, 1),
            (("oak", "ash"), BadNumber, 1),
        ]:
            for given in (names, list(names)):
                self.assert_refused(error, worth, crew, crew.record, "left", True, *given, foot=-1)
                self.assert_row_refused(error, worth, crew, ("record", "left", True, given, -1))
                self.assert_refused(error, worth, crew, crew.reaches, "left", *given, foot=-1)
        for foot in (-1, -HUGE):
            self.assert_refused(BadNumber, foot, crew, crew.record, "left", False, "ash", "birch", foot=foot)
            self.assert_row_refused(BadNumber, foot, crew, ("record", "left", False, ["ash"], foot))
            crew_at_odds = Crew(Site.plain(1, 0, 0), ash=5)
            crew_at_odds["left"] = 0
            self.assert_refused(BadNumber, foot, crew_at_odds, crew_at_odds.record, "left", False, "ash", foot=foot)

    def test_no_shape(self):
        crew = new_crew()
        crew.record("far", True, "oak")
        crew.record("left", True, "ash")
        # The last index is the new trial's.
        self.assert_refused(NoShape, [(2, 1)], crew, crew.record, "left", False, "ash")
        self.assert_row_refused(NoShape, [(2, 1)], crew, ("record", "left", False, ("ash",), 0))
        self.assert_refused(NoShape, [(2, 1)], crew, crew.record, "right", False, "cedar")
        self.assert_refused(NoShape, [(2,)], crew, crew.record, "far", False, "cedar", "birch")
        self.assert_refused(NoShape, [(2,)], crew, crew.record, "far", True, "oak", foot=2)
        self.assertEqual(rows_of(crew.recorded), [(2, 1, True), (0, 5, True)])
        crew.misreads = 1
        self.assertEqual(crew.record("left", False, "ash"), 2)
        self.assertEqual(crew.needed, 1)
        with self.assertRaises(NoShape) as caught:
            crew.record("far", False, "cedar")
        self.assertEqual(sorted(caught.exception.blames), [(2, 1), (3, 0)])
        self.assertEqual(len(crew), 3)

    def test_more_than_forty_trials(self):
        crew = new_crew()
        for at in range(60):
            self.assertEqual(crew.record("left", True, "ash", foot=at % 5), at)
        self.assertEqual((len(crew), crew.needed), (60, 0))


class ForgetDeedTest(CrewChecks):
    def test_forget(self):
        crew = new_crew()
        for names in (["ash"], ["birch"], ["cedar"], ["ash", "birch"]):
            crew.record("left", True, *names)
        self.assert_new_deed(crew, ("forget", 1), [(0, 3, True)], crew.forget, 1)
        self.assertEqual(rows_of(crew.recorded), [(0, 5, True), (0, 7, True), (0, 7, True)])
        self.assert_new_deed(crew, ("forget", 0), [(0, 5, True)], crew.do, ("forget", 0))
        self.assert_new_deed(crew, ("forget", 1), [(0, 7, True)], crew.forget, number=1)
        self.assertEqual(crew.record("left", False, "birch"), 1)
        self.assertEqual(rows_of(crew.recorded), [(0, 7, True), (0, 3, False)])
        crew.undo()
        crew.undo()
        crew.undo()
        crew.undo()
        self.assertEqual(rows_of(crew.recorded), [(0, 5, True), (0, 3, True), (0, 7, True), (0, 7, True)])

    def test_no_such_trial(self):
        crew = new_crew()
        for count in range(3):
            for number in (-HUGE, -2, -1, count, count + 1, HUGE):
                self.assert_refused(BadNumber, number, crew, crew.forget, number)
                self.assert_row_refused(BadNumber, number, crew, ("forget", number))
            crew.record("left", True, "ash")

    def test_indexes_of_blames_behind_it(self):
        crew = new_crew()
        crew.record("far", True, "cedar")
        crew.record("left", True, "ash")
        crew.forget(0)
        self.assert_refused(NoShape, [(1, 0)], crew, crew.record, "left", False, "cedar")


class MisreadsDeedTest(CrewChecks):
    def test_change(self):
        crew = new_crew()
        self.assert_new_deed(crew, ("misreads", 3), None, crew.change, "misreads", 3)
        self.assertEqual(crew.misreads, 3)
        self.assert_new_deed(crew, ("misreads", 0), None, crew.do, ("misreads", 0))
        self.assert_new_deed(crew, ("misreads", HUGE), None, crew.change, value=HUGE, name="misreads")
        crew.misreads = 7
        self.assertEqual((crew.misreads, crew.history()[-1]), (7, ("misreads", 7)))
        crew.undo()
        self.assertEqual(crew.misreads, HUGE)

    def test_is_a_property(self):
        for name in ("misreads", "recorded", "needed"):
            self.assertIsInstance(vars(Crew)[name], property)
        self.assertIsNotNone(vars(Crew)["misreads"].fset)

    def test_errors_in_order(self):
        crew = new_crew()
        crew.misreads = 2
        for height in ("ash", "birch"):
            crew.record("left", True, height)
        for foot in (0, 1):
            crew.record("left", False, "cedar", foot=foot)
        self.assertEqual(crew.needed, 2)
        for name in ("", "misread", "Misreads", "ash", "left"):
            for value in (-1, 0, 5):
                self.assert_refused(UnknownName, name, crew, crew.change, name, value)
        for value in (-1, -HUGE):
            self.assert_refused(BadNumber, value, crew, crew.change, "misreads", value)
            self.assert_refused(BadNumber, value, crew, setattr, crew, "misreads", value)
            self.assert_row_refused(BadNumber, value, crew, ("misreads", value))
        shapes = shapes_of(WALLS, [])
        for value in (0, 1):
            before = everything(crew)
            for call in (lambda: crew.change("misreads", value), lambda: crew.do(("misreads", value)),
                         lambda: setattr(crew, "misreads", value)):
                self.assert_no_shape(shapes, crew.recorded, call)
                self.assertEqual(everything(crew), before)
        crew.misreads = 2
        self.assertEqual(crew.misreads, 2)


class UndoTest(CrewChecks):
    def test_nothing_to_undo_or_redo(self):
        crew = Crew(Site(WALLS), ash=5)
        for error, call in [(NothingToUndo, crew.undo), (NothingToRedo, crew.redo)]:
            with self.assertRaises(error) as caught:
                call()
            self.assertIs(caught.exception.__class__, error)
        # Ladders of the keywords are no deed.
        self.assertEqual((crew.ladders(), crew.steps()), ([("ash", 5)], (0, 0)))
        crew["left"] = 0
        crew.undo()
        with self.assertRaises(NothingToUndo):
            crew.undo()
        crew.redo()
        with self.assertRaises(NothingToRedo):
            crew.redo()
        self.assertEqual(crew.steps(), (1, 0))

    def test_each_deed_back_and_forth(self):
        crew = Crew(Site(WALLS), ash=5)
        calls = [
            lambda: crew.put_ladder("birch", 3),
            lambda: crew.put_mark("left", 0),
            lambda: crew.record("left", True, "ash", "birch", foot=1),
            lambda: crew.put_mark("left", 2),
            lambda: crew.record("left", False, "birch"),
            lambda: crew.change("misreads", 2),
            lambda: crew.forget(0),
            lambda: crew.run([("ladder", "cedar", 4), ("record", "left", False, ["cedar"], 0), ("forget", 0)]),
            lambda: setattr(crew, "misreads", 1),
            lambda: crew.__setitem__("far", 1),
        ]
        known = [everything(crew)]
        for call in calls:
            call()
            known.append(everything(crew))
        for at, told in enumerate(known):
            self.assertEqual(told[3], (at, 0))
        for at in range(len(calls) - 1, -1, -1):
            self.assertIsNone(crew.undo())
            self.assertEqual(crew.steps(), (at, len(calls) - at))
            self.assertEqual(everything(crew)[:3] + everything(crew)[4:], known[at][:3] + known[at][4:])
        for at in range(1, len(calls) + 1):
            self.assertIsNone(crew.redo())
            self.assertEqual(crew.steps(), (at, len(calls) - at))
            self.assertEqual(everything(crew)[:3] + everything(crew)[4:], known[at][:3] + known[at][4:])

    def test_new_deed_discards_what_was_taken_back(self):
        crew = new_crew()
        crew.undo()
        crew.undo()
        self.assertEqual(crew.steps(), (2, 2))
        crew["left"] = 1
        self.assertEqual(crew.steps(), (3, 0))
        with self.assertRaises(NothingToRedo):
            crew.redo()
        self.assertEqual(crew.marks(), [("left", 1), ("right", 1)])

    def test_errors_and_empty_runs_discard_nothing(self):
        crew = new_crew()
        crew.undo()
        crew.undo()
        for call in (
            lambda: crew.do(("fly", 1)), lambda: crew.put_mark("A", 0), lambda: crew.forget(0), lambda: crew.change("x", 0),
            lambda: crew.run([("mark", "left", 2), ("forget", 0)]), lambda: crew.record("left", True), lambda: crew["none"],
            lambda: crew.put_ladder("ash", 1), lambda: setattr(crew, "misreads", -1),
        ):
            with self.assertRaises(LadderError):
                call()
            self.assertEqual(crew.steps(), (2, 2))
        self.assertEqual((crew.run([]), crew.run(()), crew.steps()), ([], [], (2, 2)))
        crew.redo()
        crew.redo()
        self.assertEqual((crew.steps(), crew.marks()[-1]), ((4, 0), ("top", 0)))

    def test_deeds_that_change_nothing(self):
        crew = new_crew()
        for call in (lambda: crew.put_mark("left", 0), lambda: crew.change("misreads", 0), lambda: setattr(crew, "misreads", 0)):
            done = crew.steps()[0]
            call()
            self.assertEqual(crew.steps(), (done + 1, 0))
            crew.undo()
            self.assertEqual(crew.steps(), (done, 1))
            call()
            self.assertEqual(crew.steps(), (done + 1, 0))
        self.assertEqual(crew.history()[-3:], [("mark", "left", 0), ("misreads", 0), ("misreads", 0)])

    def test_long_way_back(self):
        crew = Crew(Site(WALLS))
        for at in range(2000):
            crew["left"] = at % 3
        self.assertEqual((crew.steps(), len(crew.history())), ((2000, 0), 2000))
        for _ in range(1999):
            crew.undo()
        self.assertEqual((crew.steps(), crew["left"]), ((1, 1999), 0))
        crew.redo()
        self.assertEqual((crew.steps(), crew["left"]), ((2, 1998), 1))


class RunTest(CrewChecks):
    ROWS = [
        ("ladder", "pine", 4),
        ("mark", "late", 2),
        ("record", "late", True, ["pine", "ash"], 2),
        ("misreads", 1),
        ("record", "left", False, ("pine",), 0),
        ("forget", 0),
        ("mark", "late", 0),
    ]
    LISTED = [row if row[0] != "record" else (*row[:3], tuple(row[3]), row[4]) for row in ROWS]

    def test_run_is_one_deed(self):
        for rows in (self.ROWS, tuple(self.ROWS)):
            crew = new_crew()
            before = everything(crew)
            results = crew.run(rows)
            self.assertIs(results.__class__, list)
            self.assertEqual(results[:5] + results[6:], [None, None, 0, None, 1, None])
            self.assertEqual(rows_of(results[5:6]), [(2, 7, True)])
            self.assertEqual((crew.steps(), crew.history()[4:]), ((5, 0), self.LISTED))
            self.assertEqual((crew["late"], crew.misreads, rows_of(crew.recorded)), (0, 1, [(0, 4, False)]))
            after = everything(crew)
            crew.undo()
            self.assertEqual((everything(crew)[:3], everything(crew)[4:]), (before[:3], before[4:]))
            self.assertEqual(crew.steps(), (4, 1))
            crew.redo()
            self.assertEqual(everything(crew), after)

    def test_rows_one_by_one_do_the_same(self):
        crew, other = new_crew(), new_crew()
        crew.run(rows=self.ROWS)
        for row in self.ROWS:
            other.do(row=row)
        self.assertEqual(other.history(), crew.history())
        self.assertEqual((everything(other)[:3], everything(other)[4:]), (everything(crew)[:3], everything(crew)[4:]))
        self.assertEqual((crew.steps(), other.steps()), ((5, 0), (11, 0)))

    def test_failing_rows(self):
        crew = new_crew()
        crew.record("left", True, "ash")
        crew.undo()
        for number in range(len(self.ROWS) + 1):
            for row, error, worth in [
                (("fly", 3), BadName, "fly"),
                (("",), BadName, ""),
                (("mark", "late", 3), NoPlace, 3),
                (("forget", 9), BadNumber, 9),
                (("misreads", -4), BadNumber, -4),
                (("ladder", "ash", 3), TakenName, "ash"),
                (("record", "gone", True, ["ash"], 0), UnknownName, "gone"),
            ]:
                rows = self.ROWS[:number] + [row] + self.ROWS[number:]
                self.assert_run_fails(error, worth, crew, rows, number)
        self.assertEqual(crew.steps(), (4, 1))

    def test_no_shape_within_a_run(self):
        crew = new_crew()
        rows = [("record", "left", True, ["ash"], 0), ("record", "left", False, ["cedar"], 0), ("misreads", 1)]
        self.assert_run_fails(NoShape, [(1, 0)], crew, rows, 1)
        self.assertEqual(crew.run([rows[2], rows[0], rows[1]]), [None, 0, 1])
        self.assert_run_fails(NoShape, [(1, 0)], crew, [("misreads", 2), ("misreads", 0)], 1)

    def test_rows_see_those_before_them(self):
        crew = Crew(Site(WALLS))
        rows = [("mark", "left", 0), ("ladder", "ash", 3), ("record", "left", True, ["ash"], 0), ("mark", "left", 1),
                ("record", "left", True, ["ash"], 0)]
        self.assertEqual(crew.run(rows), [None, None, 0, None, 1])
        self.assertEqual(rows_of(crew.recorded), [(0, 3, True), (1, 3, True)])
        self.assert_run_fails(TakenName, "birch", crew, [("ladder", "birch", 3), ("ladder", "birch", 3)], 1)

    def test_unknown_words(self):
        crew = new_crew()
        for word in ("", "Mark", "marks", "put_mark", "change", "undo", "redo", "run", "do", "self", "5"):
            self.assert_row_refused(BadName, word, crew, (word, "left", 0))
            self.assert_refused(BadName, word, crew, crew.do, (word,))

    def test_lists_that_are_changed_afterwards(self):
        crew = new_crew()
        names = ["ash", "birch"]
        row = ("record", "left", True, names, 0)
        rows = [row, ("mark", "late", 1)]
        crew.do(row)
        crew.run(rows)
        names.clear()
        rows.clear()
        listed = ("record", "left", True, ("ash", "birch"), 0)
        self.assertEqual(crew.history()[4:], [listed, listed, ("mark", "late", 1)])
        crew.undo()
        crew.redo()
        self.assertEqual(crew.history()[4:], [listed, listed, ("mark", "late", 1)])
        told = everything(crew)
        for rows in (crew.history(), crew.marks(), crew.ladders(), crew.recorded):
            rows.clear()
        self.assertEqual(everything(crew), told)

    def test_arguments_are_left(self):
        names, rows = ["ash"], []
        rows += [("record", "left", True, names, 0), ("mark", "late", 1)]
        new_crew().run(rows)
        self.assertEqual(rows, [("record", "left", True, ["ash"], 0), ("mark", "late", 1)])
        self.assertIs(rows[0][3], names)


class HistoryTest(CrewChecks):
    def test_kinds(self):
        crew = new_crew()
        crew.record("left", True, "ash", foot=2)
        self.assertTrue(all(row.__class__ is tuple for row in crew.history()))
        self.assertIs(crew.history()[-1][3].__class__, tuple)
        self.assertIs(crew.history()[-1][2], True)

    def test_replayed(self):
        crew = new_crew()
        crew.run(RunTest.ROWS)
        crew.record("right", False, "oak")
        crew.undo()
        for rows in (crew.history(), tuple(crew.history())):
            again = Crew.replayed(crew.site, rows, ash=5, birch=3, cedar=7, oak=1)
            self.assertIs(again.__class__, Crew)
            self.assertIs(again.site, crew.site)
            self.assertEqual(again.steps(), (len(crew.history()), 0))
            self.assertEqual((everything(again)[:3], everything(again)[4:]), (everything(crew)[:3], everything(crew)[4:]))
        again = Crew.replayed(rows=[], site=crew.site)
        self.assertEqual(everything(again), (0, [], 0, (0, 0), [], [], [], 0))
        self.assertEqual(Crew.replayed(crew.site, [("mark", "left", 1)]).marks(), [("left", 1)])

    def test_errors_of_rows_as_they_are(self):
        site = Site(WALLS)
        for row, error, worth in [
            (("fly",), BadName, "fly"),
            (("mark", "left", 9), NoPlace, 9),
            (("record", "left", True, ["ash"], 0), UnknownName, "left"),
            (("forget", 0), BadNumber, 0),
            (("misreads", -1), BadNumber, -1),
            (("ladder", "ash", 2), TakenName, "ash"),
        ]:
            self.assert_raises(error, worth, lambda: Crew.replayed(site, [("mark", "far", 2), row, ("fly",)], ash=3))

    def test_rows_are_listed_without_what_was_taken_back(self):
        crew = new_crew()
        crew.run([("mark", "one", 0), ("mark", "two", 1)])
        crew.run([("mark", "three", 0)])
        crew.undo()
        self.assertEqual(crew.history()[4:], [("mark", "one", 0), ("mark", "two", 1)])
        crew.undo()
        self.assertEqual(len(crew.history()), 4)
        crew.redo()
        crew.redo()
        self.assertEqual(crew.history()[4:], [("mark", "one", 0), ("mark", "two", 1), ("mark", "three", 0)])


class TellingTest(CrewChecks):
    def test_recorded_and_needed(self):
        crew = new_crew()
        crew.misreads = 5
        for at, (mark, told, name) in enumerate([("left", True, "birch"), ("left", False, "ash"), ("right", False, "cedar")]):
            crew.record(mark, told, name)
            self.assertEqual(crew.needed, fewest_misread(crew.site, crew.recorded))
            self.assertIs(crew.needed.__class__, int)
        self.assertEqual((crew.needed, len(crew)), (1, 3))
        crew.recorded.clear()
        self.assertEqual(len(crew.recorded), 3)

    def test_stretches_of(self):
        crew = Crew(Site.plain(2, 20, 30), ash=4, birch=11)
        crew["left"] = 0
        crew.misreads = 1
        crew.record("left", True, "ash")
        crew.record("left", False, "birch")
        self.assertEqual(crew.stretches_of("left"), [(0, 4), (12, 20)])
        crew["left"] = 1
        self.assertEqual(crew.stretches_of(mark="left"), [(0, 20)])
        crew.forget(0)
        crew["left"] = 0
        crew.misreads = 0
        self.assertEqual(crew.stretches_of("left"), [(12, 20)])
        for mark in ("right", "", "ash"):
            self.assert_refused(UnknownName, mark, crew, crew.stretches_of, mark)

    def test_reaches(self):
        crew = Crew(Site.plain(1, 20, 0), ash=4, birch=11, cedar=13, oak=1)
        crew["left"] = 0
        crew.record("left", True, "birch")
        crew.record("left", False, "ash")
        self.assertEqual([crew.reaches("left", name) for name in ("ash", "birch", "cedar")], ["never", "surely", "surely"])
        self.assertEqual([crew.reaches("left", "cedar", foot=foot) for foot in (6, 7, 12, 13, 14)],
                         ["surely", "open", "open", "never", "never"])
        self.assertEqual([crew.reaches("left", *names) for names in (["ash", "birch"], ["oak"])], ["surely", "never"])
        crew.misreads = 1
        self.assertEqual(crew.reaches("left", "birch"), "open")
        steps = crew.steps()
        crew.reaches("left", "ash", "birch", foot=3)
        self.assertEqual(crew.steps(), steps)

    def test_errors_of_reaches(self):
        crew = new_crew()
        self.assert_refused(UnknownName, "new", crew, crew.reaches, "new", "elm", foot=-1)
        self.assert_refused(UnknownName, "elm", crew, crew.reaches, "left", "ash", "ash", "elm", foot=-1)
        self.assert_refused(TakenName, "ash", crew, crew.reaches, "left", "ash", "ash", foot=-1)
        self.assert_refused(BadNumber, 0, crew, crew.reaches, "left", foot=-1)
        self.assert_refused(BadNumber, 1, crew, crew.reaches, "left", "oak", "ash", foot=-1)
        self.assert_refused(BadNumber, -1, crew, crew.reaches, "left", "ash", foot=-1)

    def test_advise(self):
        crew = Crew(Site.plain(1, 20, 0), ash=4, birch=11, cedar=13)
        crew["left"] = 0
        menu = [("left", ["birch"], 0), ("left", ("ash",), 0), ("left", ["ash", "birch"], 0)]
        self.assertEqual(crew.advise(Band(0, 4), menu), 1)
        self.assertEqual(crew.advise(menu=menu, wish=Band(0, 4, 11)), 0)
        self.assertEqual(crew.advise(Band(0, 14), menu), 2)
        self.assertEqual(crew.advise(Band(0, 12), [("left", ["cedar"], 5)]), 0)
        for wish in (Band(0, 5), Wish()):
            self.assertIsNone(crew.advise(wish, menu))
            self.assertIsNone(crew.advise(wish, []))
        crew.record("left", True, "ash")
        self.assertIsNone(crew.advise(Band(0, 4), menu))
        self.assertEqual(menu, [("left", ["birch"], 0), ("left", ("ash",), 0), ("left", ["ash", "birch"], 0)])
        crew.misreads = 1
        self.assertIsNone(crew.advise(Band(0, 4), menu))
        self.assertEqual(crew.advise(Band(0, 4), [("left", ["ash"], 0)] * 2), 0)

    def test_errors_of_advise(self):
        crew = new_crew()
        bad_wish, good = Band(9, 3), ("left", ["ash"], 0)
        for entry, error, worth in [
            (("new", ["elm"], -1), UnknownName, "new"),
            (("left", ["elm", "ash", "ash"], -1), UnknownName, "elm"),
            (("left", ("ash", "ash"), -1), TakenName, "ash"),
            (("left", [], -1), BadNumber, 0),
            (("left", ["oak", "ash"], -1), BadNumber, 1),
            (("left", ["ash"], -1), BadNumber, -1),
        ]:
            for menu in ([entry], [good, entry, ("none", [], 0)], [good] * 9 + [entry]):
                self.assert_refused(error, worth, crew, crew.advise, bad_wish, menu)
        for place in (-1, 3, HUGE):
            for menu in ([], [good], [good] * 9):
                self.assert_refused(NoPlace, place, crew, crew.advise, AllWithin((0, 1), (place, 3), (99, 3)), menu)
        for count in (7, 8, 20):
            self.assert_refused(TooMany, count, crew, crew.advise, Band(0, 3), [good] * count)
        self.assertIs(crew.advise(Band(0, 5), [good] * 6).__class__, int)


class DrawnDeedsTest(CrewChecks):
    """Drawn deeds beside a plain model: a list of rows in effect, done from the beginning each time."""

    def drawn_row(self, draw, crew):
        names = [name for name, _ in crew.ladders()]
        chosen = draw.sample(names, min(len(names), draw.choice([0, 1, 1, 1, 2, 2])))
        rows = [
            ("ladder", draw.choice("abcdefghX"), draw.choice([-1, 1, 3, 4, 6])),
            ("mark", draw.choice("uvwxyZ"), draw.randint(-1, crew.site.size)),
            ("forget", draw.randint(-1, len(crew) + 1)),
            ("misreads", draw.randint(-1, 2)),
            ("fly", 1),
        ]
        record = ("record", draw.choice("uvwxy"), draw.random() < 0.5, chosen, draw.choice([0, 0, 1, 4, -1]))
        return draw.choice(rows + [record] * 6)

    def done(self, model, shapes, row):
        """Do a row on a model (ladders, marks, trials, allowance); return it and the result, or None if refused."""
        ladders, marks, trials, misreads = dict(model[0]), dict(model[1]), list(model[2]), model[3]
        word, *told = row
        result = None
        if word == "ladder":
            if told[0] == "X" or told[0] in ladders or told[1] < 0 or len(ladders) == 8:
                return None
            ladders[told[0]] = told[1]
        elif word == "mark":
            if told[0] == "Z" or not 0 <= told[1] < len(shapes[0]):
                return None
            marks[told[0]] = told[1]
        elif word == "forget":
            if not 0 <= told[0] < len(trials):
                return None
            result = rows_of([trials.pop(told[0])])
        elif word == "misreads":
            misreads = told[0]
        elif word == "record":
            mark, hit, names, foot = told
            if mark not in marks or not names or foot < 0 or (len(names) > 1 and min(ladders[name] for name in names) < 2):
                return None
            length = sum(ladders[name] for name in names) - len(names) + 1
            height = max([at for at in range(length + 1) if at * at + foot * foot <= length * length], default=-1)
            trials.append(Trial(marks[mark], height, hit))
            result = len(trials) - 1
        else:
            return None
        if misreads < 0 or fewest_of(shapes, trials) > misreads:
            return None
        return (ladders, marks, trials, misreads), result

    def check(self, crew, model, shapes, steps):
        ladders, marks, trials, misreads = model
        needed = fewest_of(shapes, trials)
        rows = [row for part in steps[0] for row in part]
        self.assertEqual(everything(crew), (misreads, rows_of(trials), needed, (len(steps[0]), len(steps[1])), rows,
                                            list(marks.items()), list(ladders.items()), len(trials)))

    def model_of(self, shapes, rows):
        model = ({}, {}, [], 0)
        for row in rows:
            model, _ = self.done(model, shapes, row)
        return model

    def step(self, draw, crew, model, shapes, steps):
        """Do one drawn thing with the crew and the model; return the model."""
        chance = draw.random()
        if chance < 0.12:
            if steps[0]:
                crew.undo()
                steps[1].append(steps[0].pop())
            return self.model_of(shapes, [row for part in steps[0] for row in part])
        if chance < 0.22:
            if steps[1]:
                crew.redo()
                steps[0].append(steps[1].pop())
            return self.model_of(shapes, [row for part in steps[0] for row in part])
        rows = [self.drawn_row(draw, crew) for _ in range(draw.choice([0, 1, 2, 3]) if chance < 0.4 else 1)]
        results, after = [], model
        for row in rows:
            done = self.done(after, shapes, row)
            if done is None:
                with self.assertRaises(LadderError) as caught:
                    crew.run(rows) if chance < 0.4 else crew.do(row)
                if chance < 0.4:
                    self.assertEqual(caught.exception.row, len(results))
                return model
            after = done[0]
            results.append(done[1])
        told = crew.run(rows) if chance < 0.4 else [crew.do(rows[0])]
        self.assertEqual([rows_of([one]) if isinstance(one, Trial) else one for one in told], results)
        if rows:
            steps[0].append([row if row[0] != "record" else (*row[:3], tuple(row[3]), row[4]) for row in rows])
            steps[1].clear()
        return after

    def test_drawn_deeds(self):
        draw = random.Random(809)
        lengths = []
        for at in range(40):
            walls, links, shapes = wide_site(draw, 1) if at % 2 else small_site(draw, 3, 4, 1)
            rows = [("ladder", "a", 3), ("ladder", "b", 5), ("mark", "u", 0), ("mark", "v", len(shapes[0]) - 1)]
            crew, model, steps = Crew(Site(walls, links)), self.model_of(shapes, rows), ([rows], [])
            crew.run(rows)
            for _ in range(80):
                model = self.step(draw, crew, model, shapes, steps)
                self.check(crew, model, shapes, steps)
            self.check_telling(draw, crew, model, shapes)
            lengths.append(len(crew))
        self.assertGreater(sum(lengths), 60)

    def check_telling(self, draw, crew, model, shapes):
        """Check what the crew tells of heights with the functions of other modules and a listing."""
        ladders, marks, trials, misreads = model
        left = allowed(shapes, trials, misreads)
        for mark, place in marks.items():
            self.assertEqual(crew.stretches_of(mark), runs_of(heights[place] for heights in left))
            self.assertEqual(crew.stretches_of(mark), stretches(crew.site, trials, place, misreads=misreads))
            for name, length in ladders.items():
                self.assertEqual(crew.reaches(mark, name), within(crew.site, trials, place, length, misreads=misreads))
        if marks and ladders:
            for _ in range(4):
                wish, _ = drawn_wish(draw, crew.site.size, 5)
                menu = [(draw.choice(list(marks)), [draw.choice(list(ladders))], draw.randint(0, 2)) for _ in range(3)]
                rack = Rack(**ladders)
                entries = [(marks[mark], rack.joined(*names)(foot)) for mark, names, foot in menu]
                best = Planner(crew.site, trials, wish, entries, misreads=misreads).best()
                self.assertEqual(crew.advise(wish, menu), best)


if __name__ == "__main__":
    unittest.main()
