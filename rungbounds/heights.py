"""Heights that a place can have, and ladders that surely reach it or surely miss it."""

from rungbounds.errors import NoShape
from rungbounds.ladders import check_not_negative, farthest_foot, reach
from rungbounds.misread import (
    alone_between,
    check_shape_left,
    find_blames,
    find_edges,
    heights_of,
    leaves_shape,
    most_pairs,
    rivals_among,
    rivals_without,
)
from rungbounds.trials import Trial, check_places


class Search:
    """Looks for shapes that misread at most `misreads` trials while places are pinned.

    A room is a tuple of the least and of the greatest heights of all places among the
    shapes that agree with `sure` and have the pinned heights. Both lists are such shapes.
    """

    def __init__(self, site, trials, misreads):
        self._site = site
        self._trials = list(trials)
        self._misreads = misreads
        self._rivals = rivals_among(site, self._trials)
        self._rises = [[site.limit(place, other) for other in range(site.size)] for place in range(site.size)]
        self._falls = [[site.limit(other, place) for other in range(site.size)] for place in range(site.size)]
        self._turns = [_turns_of(site, self._trials, place) for place in range(site.size)]
        self._known = {}

    def whole_room(self, sure=()):
        """Return the room without a pinned place, or None if no shape agrees with `sure`."""
        edges = find_edges(self._site, sure)
        if edges is None:
            return None
        return heights_of(edges[0]), heights_of(edges[1])

    def pinned_room(self, room, place, height):
        """Return the room in which a place has just this height, which it has in `room`."""
        lows, highs = room
        least = [height - fall for fall in self._falls[place]]
        most = [height + rise for rise in self._rises[place]]
        return (
            [low if low > other else other for low, other in zip(lows, least)],
            [high if high < other else other for high, other in zip(highs, most)],
        )

    def holds_shape(self, room):
        """Tell whether a shape of the room misreads at most `misreads` trials."""
        alone = tuple(alone_between(self._trials, *room))
        # What else must be misread depends on these trials only, and most rooms share them.
        if alone not in self._known:
            pairs = most_pairs(rivals_without(self._rivals, alone))
            self._known[alone] = len(alone) + len(pairs) <= self._misreads
        return self._known[alone]

    def parts_of(self, room, place, least):
        """Return the heights of a place from `least` on as an ascending list of tuples.

        All heights from the first to the last number of a tuple are possible, or none is.
        """
        lows, highs = room
        first = lows[place] if lows[place] > least else least
        if first > highs[place]:
            return []
        starts = [first] + [turn for turn in self._turns[place] if first < turn <= highs[place]]
        ends = [start - 1 for start in starts[1:]] + [highs[place]]
        return list(zip(starts, ends))

    def first_height(self, room, place, least):
        """Return the first possible height of a place from `least` on, or None."""
        for start, _ in self.parts_of(room, place, least):
            if self.holds_shape(self.pinned_room(room, place, start)):
                return start
        return None


def stretches(site, trials, place, *, misreads=0, sure=()):
    """Return the stretches of possible heights of a place, ascending."""
    check_places(site, trials)
    check_places(site, sure)
    site.check_place(place)
    check_not_negative(misreads)
    search = Search(site, trials, misreads)
    room = search.whole_room(sure)
    if room is None:
        return []
    found = []
    for least, greatest in search.parts_of(room, place, 0):
        if search.holds_shape(search.pinned_room(room, place, least)):
            if found and found[-1][1] == least - 1:
                least, _ = found.pop()
            found.append((least, greatest))
    return found


def within(site, trials, place, height, *, misreads=0):
    """Tell whether a place is surely within a height, never, or whether that is open."""
    check_places(site, trials)
    site.check_place(place)
    check_not_negative(misreads)
    check_shape_left(site, trials, misreads)
    reached = Trial(place, height, True)
    if not leaves_shape(site, trials, misreads, [~reached]):
        return "surely"
    if not leaves_shape(site, trials, misreads, [reached]):
        return "never"
    return "open"


def sure_foot(site, trials, place, length, *, misreads=0):
    """Return the greatest foot from which a ladder surely reaches a place, or -1."""
    found = stretches(site, trials, place, misreads=misreads)
    check_not_negative(length)
    _, greatest = _ends_of(found, site, trials)
    return farthest_foot(length, greatest)


def never_foot(site, trials, place, length, *, misreads=0):
    """Return the least foot from which a ladder surely misses a place."""
    found = stretches(site, trials, place, misreads=misreads)
    check_not_negative(length)
    least, _ = _ends_of(found, site, trials)
    return farthest_foot(length, least) + 1


def shortest_sure(site, trials, place, rack, *, foot=0, misreads=0, most=1):
    """Return the names of the shortest join of ladders that surely reaches a place."""
    found = stretches(site, trials, place, misreads=misreads)
    check_not_negative(foot)
    _, greatest = _ends_of(found, site, trials)
    for length in rack.lengths(most):
        if reach(length, foot) >= greatest:
            return rack.names_for(length, most)
    return []


def _ends_of(found, site, trials):
    """Return the least and the greatest possible height; raise NoShape if there is none."""
    if not found:
        raise NoShape(find_blames(site, trials))
    return found[0][0], found[-1][1]


def _turns_of(site, trials, place):
    """Return the heights of a place at which another set of trials is at odds with the place.

    Every height of the place from the turn of a reached trial on is at odds with it, and
    every height below the turn of a missed one.
    """
    turns = {}
    for trial in trials:
        if trial.reached:
            turns[trial.height + site.limit(trial.place, place) + 1] = True
        else:
            turns[trial.height - site.limit(place, trial.place) + 1] = True
    return sorted([int(turn) for turn in turns])
