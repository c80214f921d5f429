"""Shapes one after another, in the order of their heights."""

from rungbounds.heights import Search
from rungbounds.ladders import check_not_negative
from rungbounds.trials import check_places


def next_shape(site, trials, heights=None, *, misreads=0):
    """Return the first shape after a list of heights, or the first of all, or None."""
    listing = _begun(site, trials, misreads)
    if heights is None:
        return listing.first_shape()
    return listing.shape_after(heights)


def fitting(site, trials, *, misreads=0, most=20):
    """Yield the first `most` shapes in ascending order."""
    listing = _begun(site, trials, misreads)
    check_not_negative(most)
    found = 0
    heights = None
    while found < most:
        heights = listing.first_shape() if heights is None else listing.shape_above()
        if heights is None:
            return
        found += 1
        yield heights


class Listing:
    """Stands at a list of heights, and goes on to the shapes after it.

    For each height that it stands at it keeps the room in which this height was chosen:
    there the places before it are pinned.
    """

    def __init__(self, search):
        self._search = search
        self._heights = []
        self._rooms = []

    def first_shape(self):
        """Go to the first shape of all and return it; None if there is none."""
        self._heights, self._rooms = [], []
        room = self._search.whole_room()
        if not self._search.holds_shape(room):
            return None
        return self._filled(room)

    def shape_after(self, heights):
        """Go to the first shape after these heights and return it; None if there is none."""
        self._heights, self._rooms = [], []
        room = self._search.whole_room()
        for place, height in enumerate(heights):
            self._heights.append(height)
            self._rooms.append(room)
            # No shape begins with these heights: what follows them does not matter.
            if self._search.first_height(room, place, height) != height:
                break
            room = self._search.pinned_room(room, place, height)
        return self.shape_above()

    def shape_above(self):
        """Go to the first shape after the one it stands at and return it, or None."""
        while self._rooms:
            room = self._rooms.pop()
            height = self._search.first_height(room, len(self._rooms), self._heights.pop() + 1)
            if height is not None:
                return self._filled(self._chosen(room, height))
        return None

    def _filled(self, room):
        """Choose the least possible heights of all places that are left; return all heights."""
        lows, _ = room
        while len(self._heights) < len(lows):
            height = self._search.first_height(room, len(self._heights), 0)
            room = self._chosen(room, height)
        return list(self._heights)

    def _chosen(self, room, height):
        """Choose a height for the next place; return the room that it leaves."""
        place = len(self._heights)
        self._heights.append(height)
        self._rooms.append(room)
        return self._search.pinned_room(room, place, height)


def _begun(site, trials, misreads):
    check_places(site, trials)
    check_not_negative(misreads)
    return Listing(Search(site, trials, misreads))
