"""Trials: what a ladder that was leant at a place told of its height."""

from rungbounds.errors import NoPlace


class Trial:
    """One trial: a ladder that reached the top of the wall at a place, or missed it."""

    def __init__(self, place, height, reached):
        self.place = place
        self.height = height
        self.reached = reached

    @classmethod
    def leant(cls, place, ladder, foot, reached):
        """Return the trial of a ladder whose foot stands so far away from a place."""
        return cls(place, ladder(foot), reached)

    def agrees(self, heights):
        """Tell whether a list of heights is as the trial says."""
        if not 0 <= self.place < len(heights):
            raise NoPlace(self.place)
        if self.reached:
            return heights[self.place] <= self.height
        return heights[self.place] > self.height

    def __invert__(self):
        return Trial(self.place, self.height, not self.reached)

    def __eq__(self, other):
        return (
            isinstance(other, Trial)
            and self.place == other.place
            and self.height == other.height
            and self.reached == other.reached
        )

    def __str__(self):
        if self.reached:
            return f"{self.place} {self.height} reached"
        return f"{self.place} {self.height} missed"


def misread_numbers(trials, heights):
    """Return the indexes of the trials that a list of heights misreads, ascending."""
    return [number for number, trial in enumerate(trials) if not trial.agrees(heights)]


def pinned(place, height):
    """Return two trials that say together that a place has just this height."""
    return [Trial(place, height, True), Trial(place, height - 1, False)]


def check_places(site, trials):
    """Raise NoPlace for the first trial whose place is not a place of the site."""
    for trial in trials:
        site.check_place(trial.place)
