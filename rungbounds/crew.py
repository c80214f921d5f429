"""A crew at a site: its ladders, marks and trials, and deeds that can be taken back."""

from rungbounds.errors import (
    BadName,
    BadNumber,
    DeedFailed,
    LadderError,
    NothingToRedo,
    NothingToUndo,
    UnknownName,
)
from rungbounds.heights import stretches, within
from rungbounds.ladders import Rack, check_name, check_not_negative, reach
from rungbounds.misread import check_shape_left, fewest_misread
from rungbounds.plans import Planner
from rungbounds.trials import Trial


class Camp:
    """What a crew has at one time.

    No deed changes a Camp: each one makes another, so that those before can be kept.
    """

    def __init__(self, site, rack, spots, trials, allowance):
        self.site = site
        self.rack = rack
        self.spots = spots
        self.trials = trials
        self.allowance = allowance

    def with_ladder(self, name, length):
        """Return the camp with one more ladder."""
        rack = Rack()
        for other in self.rack.names():
            rack.put(other, self.rack.length_of(other))
        rack.put(name, length)
        return Camp(self.site, rack, self.spots, self.trials, self.allowance)

    def with_mark(self, name, place):
        """Return the camp with a mark at a place."""
        check_name(name)
        self.site.check_place(place)
        return Camp(self.site, self.rack, {**self.spots, name: place}, self.trials, self.allowance)

    def with_trials(self, trials):
        """Return the camp with these trials."""
        return Camp(self.site, self.rack, self.spots, trials, self.allowance)

    def with_allowance(self, value):
        """Return the camp in which so many trials may be misread."""
        check_not_negative(value)
        check_shape_left(self.site, self.trials, value)
        return Camp(self.site, self.rack, self.spots, self.trials, value)

    def place_at(self, mark):
        """Return the place of a mark."""
        if mark not in self.spots:
            raise UnknownName(mark)
        return self.spots[mark]

    def lean(self, mark, names, foot):
        """Return the place of a mark and the height that the joined ladders reach there."""
        place = self.place_at(mark)
        ladder = self.rack.joined(*names)
        return place, reach(ladder.length, foot)


class Crew:
    """Records trials with named ladders at named places, and tells what they show."""

    def __init__(self, site, **lengths):
        self.site = site
        self._camp = Camp(site, Rack(**lengths), {}, [], 0)
        # Each step is a tuple of its rows, the camp before it and the camp after it.
        self._done = []
        self._undone = []

    @classmethod
    def replayed(cls, site, rows, **lengths):
        """Return a new crew that did each row as a deed of its own."""
        crew = cls(site, **lengths)
        for row in rows:
            crew.do(row)
        return crew

    @property
    def misreads(self):
        """Tell how many trials may be misread."""
        return self._camp.allowance

    @misreads.setter
    def misreads(self, value):
        self.change("misreads", value)

    @property
    def recorded(self):
        """List the recorded trials."""
        return list(self._camp.trials)

    @property
    def needed(self):
        """Tell how many of the recorded trials a shape misreads at the least."""
        return fewest_misread(self.site, self._camp.trials)

    def put_ladder(self, name, length):
        """Put a new ladder into the rack."""
        return self.do(("ladder", name, length))

    def put_mark(self, name, place):
        """Put a mark at a place, or move it there."""
        return self.do(("mark", name, place))

    def record(self, mark, reached, *names, foot=0):
        """Record the trial of joined ladders at a mark; return its index."""
        return self.do(("record", mark, reached, names, foot))

    def forget(self, number):
        """Remove the trial with an index; return it."""
        return self.do(("forget", number))

    def change(self, name, value):
        """Set the allowance, which is called `misreads`."""
        if name != "misreads":
            raise UnknownName(name)
        return self.do(("misreads", value))

    def do(self, row):
        """Do the deed of one row; return what its method returns."""
        camp, result = _after_deed(self._camp, row)
        self._keep([row], camp)
        return result

    def run(self, rows):
        """Do the deeds of all rows as a single one; return the list of what they return."""
        camp = self._camp
        results = []
        for number, row in enumerate(rows):
            try:
                camp, result = _after_deed(camp, row)
            except LadderError as error:
                raise DeedFailed(number) from error
            results.append(result)
        if results:
            self._keep(rows, camp)
        return results

    def undo(self):
        """Take back the last deed in effect."""
        if not self._done:
            raise NothingToUndo()
        rows, before, after = self._done.pop()
        self._undone.append((rows, before, after))
        self._camp = before

    def redo(self):
        """Do the last deed that was taken back once more."""
        if not self._undone:
            raise NothingToRedo()
        rows, before, after = self._undone.pop()
        self._done.append((rows, before, after))
        self._camp = after

    def steps(self):
        """Return how often undo and redo can be called now."""
        return len(self._done), len(self._undone)

    def history(self):
        """Return the rows of all deeds in effect, in order."""
        return [row for rows, _, _ in self._done for row in rows]

    def marks(self):
        """Return the names and places of the marks."""
        return list(self._camp.spots.items())

    def ladders(self):
        """Return the names and lengths of the ladders."""
        rack = self._camp.rack
        return [(name, rack.length_of(name)) for name in rack.names()]

    def reaches(self, mark, *names, foot=0):
        """Tell whether joined ladders reach the place of a mark: "surely", "never" or "open"."""
        place, height = self._camp.lean(mark, names, foot)
        return within(self.site, self._camp.trials, place, height, misreads=self._camp.allowance)

    def stretches_of(self, mark):
        """Return the stretches of possible heights at a mark."""
        place = self._camp.place_at(mark)
        return stretches(self.site, self._camp.trials, place, misreads=self._camp.allowance)

    def advise(self, wish, menu):
        """Return which entry of the menu to try first, so that the wish is settled, or None."""
        entries = [self._camp.lean(mark, names, foot) for mark, names, foot in menu]
        planner = Planner(self.site, self._camp.trials, wish, entries, misreads=self._camp.allowance)
        return planner.best()

    def __getitem__(self, name):
        return self._camp.place_at(name)

    def __setitem__(self, name, place):
        self.put_mark(name, place)

    def __iter__(self):
        raise TypeError("a Crew is not iterated over: take marks() or recorded")

    def __contains__(self, name):
        return name in self._camp.spots

    def __len__(self):
        return len(self._camp.trials)

    def _keep(self, rows, camp):
        """Make rows that led to a camp the last step, which none that was taken back follows."""
        self._done.append(([_listed(row) for row in rows], self._camp, camp))
        self._undone = []
        self._camp = camp


def _after_deed(camp, row):
    """Return the camp after the deed of a row, and what the deed returns."""
    if row[0] == "ladder":
        _, name, length = row
        return camp.with_ladder(name, length), None
    if row[0] == "mark":
        _, name, place = row
        return camp.with_mark(name, place), None
    if row[0] == "record":
        return _after_trial(camp, row)
    if row[0] == "forget":
        _, number = row
        return _after_loss(camp, number)
    if row[0] == "misreads":
        _, value = row
        return camp.with_allowance(value), None
    raise BadName(row[0])


def _after_trial(camp, row):
    _, mark, reached, names, foot = row
    place, height = camp.lean(mark, names, foot)
    trials = [*camp.trials, Trial(place, height, reached)]
    check_shape_left(camp.site, trials, camp.allowance)
    return camp.with_trials(trials), len(trials) - 1


def _after_loss(camp, number):
    if not 0 <= number < len(camp.trials):
        raise BadNumber(number)
    left = camp.trials[:number] + camp.trials[number + 1:]
    return camp.with_trials(left), camp.trials[number]


def _listed(row):
    """Return a row as a history lists it; later changes of its list of names do not count."""
    return tuple([tuple(part) if isinstance(part, list) else part for part in row])
