"""Ladders, the heights that they reach, their joins, and racks of ladders."""

from math import isqrt

from rungbounds.errors import BadName, BadNumber, TakenName, TooMany, UnknownName

LETTERS = "abcdefghijklmnopqrstuvwxyz"
LONGEST_NAME = 12
MOST_LADDERS = 8


def check_name(name):
    """Raise BadName if a name does not follow the rule for ladders, walls and marks."""
    if not 1 <= len(name) <= LONGEST_NAME:
        raise BadName(name)
    for letter in name:
        if letter not in LETTERS:
            raise BadName(name)


def check_not_negative(number):
    """Raise BadNumber if a number is negative."""
    if number < 0:
        raise BadNumber(number)


def reach(length, foot=0):
    """Return the height that a ladder reaches, or -1 if it does not touch the wall."""
    check_not_negative(length)
    check_not_negative(foot)
    if foot > length:
        return -1
    return isqrt(length * length - foot * foot)


def farthest_foot(length, height):
    """Return the greatest foot from which a ladder reaches a height, or -1."""
    check_not_negative(length)
    if height > length:
        return -1
    if height < 0:
        return length
    return isqrt(length * length - height * height)


def joined_length(*lengths):
    """Return the length of a join of ladders of these lengths."""
    if not lengths:
        return 0
    # Each ladder of a join must be longer than the overlap; a single one need not.
    least = Ladder.OVERLAP + 1 if len(lengths) > 1 else 0
    for length in lengths:
        if length < least:
            raise BadNumber(length)
    return sum(lengths) - (len(lengths) - 1) * Ladder.OVERLAP


class Ladder:
    """A ladder, which is a single one or a join of several parts."""

    OVERLAP = 1

    def __init__(self, length, parts=1):
        check_not_negative(length)
        self.length = length
        self.parts = parts

    def __add__(self, other):
        if not isinstance(other, Ladder):
            return NotImplemented
        return Ladder(joined_length(self.length, other.length), self.parts + other.parts)

    def __eq__(self, other):
        if not isinstance(other, Ladder):
            return NotImplemented
        return self.length == other.length

    def __lt__(self, other):
        if not isinstance(other, Ladder):
            return NotImplemented
        return self.length < other.length

    def __repr__(self):
        return f"Ladder({self.length}, {self.parts})"

    def __call__(self, foot=0):
        return reach(self.length, foot)


class Rack:
    """Ladders by name, in the order in which they were put."""

    def __init__(self, **lengths):
        if len(lengths) > MOST_LADDERS:
            raise TooMany(len(lengths))
        self._lengths = {}
        for name, length in lengths.items():
            self.put(name, length)

    def put(self, name, length):
        """Put a ladder into the rack."""
        check_name(name)
        if name in self._lengths:
            raise TakenName(name)
        check_not_negative(length)
        if len(self._lengths) >= MOST_LADDERS:
            raise TooMany(len(self._lengths) + 1)
        self._lengths[name] = length

    def names(self):
        """Return the names in the order in which they were put."""
        return list(self._lengths)

    def length_of(self, name):
        """Return the length of one ladder."""
        if name not in self._lengths:
            raise UnknownName(name)
        return self._lengths[name]

    def joined(self, *names):
        """Return the join of the named ladders."""
        lengths = [self.length_of(name) for name in names]
        seen = {}
        for name in names:
            if name in seen:
                raise TakenName(name)
            seen[name] = True
        if not names:
            raise BadNumber(0)
        return Ladder(joined_length(*lengths), len(names))

    def lengths(self, most=1):
        """Return the lengths of all joins of 1 to `most` ladders, ascending."""
        seen = {length: True for _, length in self._joins(most)}
        return sorted([int(length) for length in seen])

    def names_for(self, length, most=1):
        """Return the names of the ladders of the join to choose for a length."""
        for names, joined in self._joins(most):
            if joined == length:
                return names
        return []

    def __len__(self):
        return len(self._lengths)

    def __contains__(self, name):
        return name in self._lengths

    def _joins(self, most):
        """Return all joins of 1 to `most` ladders as tuples of names and length.

        A join of fewer ladders stands ahead of one of more. Among those of as many,
        the order of their ladders in the rack decides.
        """
        order = list(self._lengths)
        found = []
        level = [[at] for at in range(len(order))]
        parts = 1
        while level and parts <= most:
            for join in level:
                names = [order[at] for at in join]
                found.append((names, self.joined(*names).length))
            level = self._longer_joins(order, level)
            parts += 1
        return found

    def _longer_joins(self, order, joins):
        """Return the joins of one ladder more, in the order that `joins` has."""
        least = Ladder.OVERLAP + 1
        # The ladders of a join of several are long enough: the first one tells for all.
        return [
            [*join, at]
            for join in joins
            if self._lengths[order[join[0]]] >= least
            for at in range(join[-1] + 1, len(order))
            if self._lengths[order[at]] >= least
        ]
