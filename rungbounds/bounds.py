"""Bounds: what is known of the heights if no trial is misread."""

from rungbounds.errors import NoShape, OtherSite
from rungbounds.misread import find_blames, find_edges, heights_of
from rungbounds.trials import Trial, check_places


class Bounds:
    """The least and the greatest height of each place, with the papers that derive them."""

    def __init__(self, site, trials=()):
        check_places(site, trials)
        edges = find_edges(site, trials)
        if edges is None:
            raise NoShape(find_blames(site, trials))
        self.site = site
        self._low_edges, self._high_edges = edges

    def lows(self):
        """Return the least heights of all places, which are a shape."""
        return heights_of(self._low_edges)

    def highs(self):
        """Return the greatest heights of all places, which are a shape."""
        return heights_of(self._high_edges)

    def as_trials(self):
        """Return two trials for each place that tell the same as these Bounds."""
        return _telling_trials(self.lows(), self.highs())

    def high_paper(self, place):
        """Return the trial and the chain from which the greatest height follows."""
        self.site.check_place(place)
        _, number, node = self._high_edges[place]
        return number, self.site.chain(node, place)

    def low_paper(self, place):
        """Return the trial and the chain from which the least height follows."""
        self.site.check_place(place)
        _, number, node = self._low_edges[place]
        return number, self.site.chain(place, node)

    def __getitem__(self, place):
        self.site.check_place(place)
        return self._low_edges[place][0], self._high_edges[place][0]

    def __iter__(self):
        raise TypeError("Bounds are not iterated over: take lows() or highs()")

    def __len__(self):
        return len(self._low_edges)

    def __contains__(self, heights):
        # Shapes between the bounds are just those that agree with all trials.
        if not self.site.fits(heights):
            return False
        return all([low <= height <= high for low, height, high in zip(self.lows(), heights, self.highs())])

    def __and__(self, other):
        self._check_site(other)
        return Bounds(self.site, self.as_trials() + other.as_trials())

    def __or__(self, other):
        self._check_site(other)
        lows = [low if low < more else more for low, more in zip(self.lows(), other.lows())]
        highs = [high if high > more else more for high, more in zip(self.highs(), other.highs())]
        return Bounds(self.site, _telling_trials(lows, highs))

    def __le__(self, other):
        self._check_site(other)
        # The lows and highs are shapes themselves, so they must be in the other Bounds.
        return self.lows() in other and self.highs() in other

    def __eq__(self, other):
        return (
            isinstance(other, Bounds)
            and self.site == other.site
            and self.lows() == other.lows()
            and self.highs() == other.highs()
        )

    def _check_site(self, other):
        # Sites have no == of their own, so it asks whether they are the same object.
        if self.site != other.site:
            raise OtherSite()


def _telling_trials(lows, highs):
    """Return for each place the reached trial at its high and the missed one below its low."""
    trials = []
    for place, (low, high) in enumerate(zip(lows, highs)):
        trials.append(Trial(place, high, True))
        trials.append(Trial(place, low - 1, False))
    return trials
