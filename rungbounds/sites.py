"""Sites: walls, the links between their places, and the limits that follow."""

from rungbounds.errors import BadNumber, NoPlace, NoSite, TakenName, TooMany, UnknownName
from rungbounds.ladders import check_name, check_not_negative

GROUND = -1
MOST_PLACES = 24


class Site:
    """Walls and links that at least one shape fits."""

    def __init__(self, walls, links=()):
        self._rows = [(name, top, slope, tuple(spans)) for name, top, slope, spans in walls]
        self._links = [tuple(link) for link in links]
        _check_rows(self._rows)
        self._spots = _spots_of(self._rows)
        self._places = {spot: place for place, spot in enumerate(self._spots)}
        self._tops = _tops_of(self._rows)
        self.size = len(self._spots)
        if self.size > MOST_PLACES:
            raise TooMany(self.size)
        _check_links(self._links, self.size)
        self._told = _told_limits(self._rows, self._tops, self._links)
        ring = _find_ring(self.size, self._told)
        if ring:
            raise NoSite(ring)
        self._limits = _least_sums(self.size, self._told)

    @classmethod
    def plain(cls, count, top, slope):
        """Return a site of one wall, whose spans are all 1."""
        if count < 1:
            raise BadNumber(count)
        if count > MOST_PLACES:
            # The constructor would say this, but a count of 40 digits gives no tuple.
            _check_numbers(top, slope, ())
            raise TooMany(count)
        return cls([("plain", top, slope, (1,) * (count - 1))])

    def walls(self):
        """Return the walls as they were given."""
        return list(self._rows)

    def links(self):
        """Return the links as they were given."""
        return list(self._links)

    def names(self):
        """Return the names of the walls in order."""
        return [name for name, _, _, _ in self._rows]

    def place_of(self, name, index):
        """Return the number of the place that a wall has at an index."""
        if name not in self.names():
            raise UnknownName(name)
        if (name, index) not in self._places:
            raise NoPlace(index)
        return self._places[name, index]

    def spot_of(self, place):
        """Return the name of the wall of a place, and the index of the place in it."""
        self.check_place(place)
        return self._spots[place]

    def top_of(self, place):
        """Return the top of the wall of a place."""
        self.check_place(place)
        return self._tops[place]

    def told(self, first, second):
        """Return the least told limit from one node to another, or None."""
        self.check_nodes(first, second)
        return self._told.get((first, second))

    def limit(self, first, second):
        """Return the greatest height of the second node above the first one."""
        self.check_nodes(first, second)
        return self._limits[first][second]

    def chain(self, first, second):
        """Return nodes from the first to the second whose told limits give the limit."""
        self.check_nodes(first, second)
        chains = {first: [first]}
        waiting = [first]
        while second not in chains:
            node = waiting.pop(0)
            for other in range(GROUND, self.size):
                if other not in chains and self._is_tight(first, node, other):
                    chains[other] = [*chains[node], other]
                    waiting.append(other)
        return chains[second]

    def check_place(self, place):
        """Raise NoPlace if a number is not the number of a place."""
        if not 0 <= place < self.size:
            raise NoPlace(place)

    def check_nodes(self, *nodes):
        """Raise NoPlace for the first number that is not the number of a node."""
        for node in nodes:
            if not GROUND <= node < self.size:
                raise NoPlace(node)

    def fits(self, heights):
        """Tell whether a list of heights is a shape."""
        if len(heights) != self.size:
            return False
        # The ground, -1, is the last item, as in the rows of _least_sums.
        levels = [*heights, 0]
        return all([levels[second] - levels[first] <= most for (first, second), most in self._told.items()])

    def _is_tight(self, start, node, other):
        """Tell whether a least way from `start` leads to `other` straight from `node`."""
        step = self._told.get((node, other))
        if step is None:
            return False
        return self._limits[start][node] + step == self._limits[start][other]


def _check_rows(rows):
    """Raise the first error that a wall by itself or its name gives."""
    taken = {}
    for name, top, slope, spans in rows:
        check_name(name)
        if name in taken:
            raise TakenName(name)
        taken[name] = True
        _check_numbers(top, slope, spans)


def _check_numbers(top, slope, spans):
    check_not_negative(top)
    check_not_negative(slope)
    for span in spans:
        if span < 1:
            raise BadNumber(span)


def _check_links(links, size):
    """Raise NoPlace for the first end of a link that is no place or not another one."""
    for first, second, _, _ in links:
        if not 0 <= first < size:
            raise NoPlace(first)
        if not 0 <= second < size or second == first:
            raise NoPlace(second)


def _spots_of(rows):
    """Return for each place the name of its wall and its index in it."""
    return [(name, index) for name, _, _, spans in rows for index in range(len(spans) + 1)]


def _tops_of(rows):
    """Return for each place the top of its wall."""
    return [top for _, top, _, spans in rows for _ in range(len(spans) + 1)]


def _told_limits(rows, tops, links):
    """Return a dict of the least told limits from node to node."""
    told = {}
    limits = _ground_limits(tops) + _slope_limits(rows) + _link_limits(links)
    for first, second, most in limits:
        known = told.get((first, second))
        if known is None or most < known:
            told[first, second] = most
    return told


def _ground_limits(tops):
    limits = []
    for place, top in enumerate(tops):
        limits.append((GROUND, place, top))
        limits.append((place, GROUND, 0))
    return limits


def _slope_limits(rows):
    limits = []
    place = 0
    for _, _, slope, spans in rows:
        for span in spans:
            limits.append((place, place + 1, slope * span))
            limits.append((place + 1, place, slope * span))
            place += 1
        place += 1
    return limits


def _link_limits(links):
    limits = []
    for first, second, least, most in links:
        limits.append((first, second, most))
        limits.append((second, first, -least))
    return limits


def _find_ring(size, told):
    """Return a ring of nodes whose told limits have a negative sum, or an empty list.

    All ways begin with the sum 0. Without such a ring no least way has more steps than
    there are other nodes, so the last round, one for each node, changes nothing.
    """
    sums = {node: 0 for node in range(GROUND, size)}
    before = {}
    changed = []
    for _ in range(GROUND, size):
        changed = []
        for (first, second), most in told.items():
            if sums[first] + most < sums[second]:
                sums[second] = sums[first] + most
                before[second] = first
                changed.append(second)
    if not changed:
        return []
    return _ring_behind(changed[-1], before)


def _ring_behind(node, before):
    """Return the ring into which the steps back from a node lead."""
    for _ in range(len(before)):
        node = before[node]
    ring = [node]
    other = before[node]
    while other != node:
        ring.append(other)
        other = before[other]
    ring.reverse()
    return ring


def _least_sums(size, told):
    """Return the least sums of told limits on the ways between all nodes.

    The number of a node is its index in the table: the ground, -1, stands last.
    """
    nodes = list(range(size)) + [GROUND]
    table = [[_first_sum(told, first, second) for second in nodes] for first in nodes]
    for node in nodes:
        onward = table[node]
        table = [_sums_by(row, row[node], onward) for row in table]
    return table


def _first_sum(told, first, second):
    """Return the sum for the straight way, or by the ground if there is no such way."""
    if first == second:
        return 0
    # From a place to the ground the limit is 0: the way by the ground costs the rest.
    return told.get((first, second), told.get((GROUND, second)))


def _sums_by(row, step, onward):
    """Return a row of sums in which the ways by another node count as well."""
    return [known if known <= step + more else step + more for known, more in zip(row, onward)]
