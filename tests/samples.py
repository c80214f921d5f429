"""What several tests share: sites to try, listings by the words of the document, and checks."""

import signal
import unittest
from contextlib import contextmanager
from itertools import product

from rungbounds.errors import NoShape
from rungbounds.trials import Trial
from rungbounds.wishes import AllWithin, Band, Both, SomeWithin, Wish

HUGE = 10**40 - 1


def told_rows(walls, links):
    """List all told limits of point [10] as tuples (from, to, limit)."""
    rows = []
    place = 0
    for _, top, slope, spans in walls:
        for at in range(len(spans) + 1):
            rows.append((-1, place, top))
            rows.append((place, -1, 0))
            if at < len(spans):
                rows.append((place, place + 1, slope * spans[at]))
                rows.append((place + 1, place, slope * spans[at]))
            place += 1
    for first, second, least, most in links:
        rows.append((first, second, most))
        rows.append((second, first, -least))
    return rows


def told_of(walls, links):
    """Return a dict of the least told limits."""
    least = {}
    for first, second, most in told_rows(walls, links):
        least[first, second] = min(most, least.get((first, second), most))
    return least


def is_shape(walls, links, heights):
    """Tell by the words of point [9] whether a list of heights is a shape."""
    place = 0
    for _, top, slope, spans in walls:
        own = heights[place:place + len(spans) + 1]
        if len(own) != len(spans) + 1 or min(own) < 0 or max(own) > top:
            return False
        for at, span in enumerate(spans):
            if abs(own[at] - own[at + 1]) > slope * span:
                return False
        place += len(own)
    if place != len(heights):
        return False
    return all(least <= heights[second] - heights[first] <= most for first, second, least, most in links)


def shapes_of(walls, links):
    """List all shapes."""
    heights = [range(top + 1) for _, top, _, spans in walls for _ in range(len(spans) + 1)]
    return [list(row) for row in product(*heights) if is_shape(walls, links, row)]


def least_sums(size, told, start):
    """Return the least sums of told limits from one node to all others."""
    sums = {start: 0}
    for _ in range(size + 1):
        for (first, second), most in told.items():
            if first in sums and sums[first] + most < sums.get(second, sums[first] + most + 1):
                sums[second] = sums[first] + most
    return sums


def drawn_walls(draw, most_places, most_top):
    """Draw walls with at most this many places in all."""
    walls = []
    left = draw.randint(1, most_places)
    while left:
        places = draw.randint(1, left)
        spans = tuple(draw.randint(1, 3) for _ in range(places - 1))
        name = "ab" + "cdefghijklmnopqrstuvwxyz"[len(walls)]
        walls.append((name, draw.randint(0, most_top), draw.randint(0, 2), spans))
        left -= places
    return walls


def drawn_links(draw, size, count, most_gap):
    """Draw links of which many sites have no shape."""
    links = []
    while size > 1 and len(links) < count:
        first, second = draw.sample(range(size), 2)
        least = draw.randint(-most_gap, most_gap)
        links.append((first, second, least, least + draw.randint(0, 2)))
    return links


def fitting_links(draw, heights, count, room):
    """Draw links that these heights keep."""
    links = []
    for _ in range(count):
        first, second = draw.sample(range(len(heights)), 2)
        gap = heights[second] - heights[first]
        links.append((first, second, gap - draw.randint(0, room), gap + draw.randint(0, room)))
    return links


def large_site(draw, unit):
    """Return walls and links with 24 places and 40 links, kept by one drawn shape."""
    walls, heights = [], []
    for name in ("north", "east", "south", "west"):
        slope = draw.randint(0, unit)
        spans = tuple(draw.randint(1, 4) for _ in range(5))
        own = [draw.randint(0, 10 * unit)]
        for span in spans:
            own.append(max(0, own[-1] + draw.randint(-slope * span, slope * span)))
        walls.append((name, max(own) + draw.randint(0, unit), slope, spans))
        heights.extend(own)
    return walls, fitting_links(draw, heights, 40, unit), heights


def small_site(draw, most_places, most_top, most_links):
    """Return walls, links and shapes of a drawn site that has a shape."""
    while True:
        walls = drawn_walls(draw, most_places, most_top)
        size = sum(len(wall[3]) + 1 for wall in walls)
        links = drawn_links(draw, size, draw.randint(0, most_links), 3)
        shapes = shapes_of(walls, links)
        if shapes:
            return walls, links, shapes


def wide_site(draw, most_links):
    """Return walls, links and shapes of a drawn site whose places have much room."""
    walls = [("a", 10, draw.randint(1, 10), (1,) * draw.randint(0, 1)), ("b", 8, 0, ())]
    size = len(walls[0][3]) + 2
    links = [(*draw.sample(range(size), 2), -draw.randint(0, 8), draw.randint(0, 8)) for _ in range(most_links)]
    return walls, links, shapes_of(walls, links)


def reached(place, height):
    return Trial(place, height, True)


def missed(place, height):
    return Trial(place, height, False)


def drawn_trials(draw, size, count, top):
    """Draw trials at a site of so many places, some of them equal."""
    trials = []
    while len(trials) < count:
        if trials and draw.random() < 0.15:
            trials.append(draw.choice(trials))
        else:
            trials.append(Trial(draw.randrange(size), draw.randint(-1, top), draw.random() < 0.5))
    return trials


def trials_about(draw, heights, count, unit, wrong):
    """Draw trials that these heights agree with, but for so many that may be misread."""
    trials = []
    for at in range(count):
        place = draw.randrange(len(heights))
        height = heights[place] + draw.randint(-unit, unit)
        trials.append(Trial(place, height, (heights[place] <= height) != (at < wrong)))
    draw.shuffle(trials)
    return trials


def misreads_of(trials, heights):
    """List by the words of points [13] and [14] the trials that heights misread."""
    return [at for at, trial in enumerate(trials) if (heights[trial.place] <= trial.height) != trial.reached]


def agreeing(shapes, trials):
    """List those of the shapes that agree with all trials."""
    return [heights for heights in shapes if not misreads_of(trials, heights)]


def allowed(shapes, trials, misreads=0):
    """List those of the shapes that misread at most so many trials."""
    return [heights for heights in shapes if len(misreads_of(trials, heights)) <= misreads]


def fewest_of(shapes, trials):
    """Return the least number of trials that one of the shapes misreads."""
    return min(len(misreads_of(trials, heights)) for heights in shapes)


def runs_of(numbers):
    """Return the runs of neighbouring numbers as tuples (least, greatest), ascending."""
    runs = []
    for number in sorted(set(numbers)):
        if runs and runs[-1][1] == number - 1:
            runs[-1] = (runs[-1][0], number)
        else:
            runs.append((number, number))
    return runs


def rows_of(trials):
    """Return trials as tuples, which can be compared and shown."""
    return [(trial.place, trial.height, trial.reached) for trial in trials]


def drawn_pairs(draw, size, top, most):
    return [(draw.randrange(size), draw.randint(-1, top)) for _ in range(draw.randint(0, most))]


def drawn_band(draw, size, top, most):
    cuts = sorted(draw.sample(range(-1, top + 1), draw.randint(0, most)))
    return draw.randrange(size), cuts


def drawn_wish(draw, size, top, depth=2):
    """Draw a wish; return it with a function that answers by the words of point [25]."""
    kind = draw.randrange(5 if depth else 4)
    if kind == 0:
        return Wish(), lambda heights: 0
    if kind == 1:
        pairs = drawn_pairs(draw, size, top, 3)
        return AllWithin(*pairs), lambda heights: int(all(heights[place] <= height for place, height in pairs))
    if kind == 2:
        some = drawn_pairs(draw, size, top, 3)
        return SomeWithin(*some), lambda heights: int(any(heights[place] <= height for place, height in some))
    if kind == 3:
        place, cuts = drawn_band(draw, size, top, 3)
        return Band(place, *cuts), lambda heights: sum(cut < heights[place] for cut in cuts)
    first, answer_first = drawn_wish(draw, size, top, depth - 1)
    second, answer_second = drawn_wish(draw, size, top, depth - 1)
    both = Both(first, second) if draw.random() < 0.5 else first & second
    return both, lambda heights: answer_first(heights) * second.size + answer_second(heights)


class StateListing:
    """What points [28] to [32] say of the states of a menu, by a listing of all shapes."""

    def __init__(self, shapes, trials, answer, menu, misreads=0):
        self.shapes, self.trials, self.answer = shapes, list(trials), answer
        self.menu, self.misreads = list(menu), misreads
        self.start = "." * len(menu)
        self.states = ["".join(signs) for signs in product(".rm", repeat=len(menu))]
        self.seen, self.ways = {}, {}

    def trials_of(self, state):
        tried = [Trial(*self.menu[at], sign == "r") for at, sign in enumerate(state) if sign != "."]
        return self.trials + tried

    def left(self, state):
        return allowed(self.shapes, self.trials_of(state), self.misreads)

    def answers(self, state):
        if state not in self.seen:
            self.seen[state] = sorted({self.answer(heights) for heights in self.left(state)})
        return self.seen[state]

    def results(self, state):
        """Return for each entry that is not tried the states reached and missed."""
        return {
            at: [state[:at] + sign + state[at + 1:] for sign in "rm"]
            for at, old in enumerate(state)
            if old == "."
        }

    def fewest(self, state):
        """Search all ways to choose from a state that is not impossible."""
        if state not in self.ways:
            counts = [self.fewest_by(state, entry) for entry in self.results(state)]
            counts = [count for count in counts if count is not None]
            self.ways[state] = 0 if len(self.answers(state)) == 1 else min(counts, default=None)
        return self.ways[state]

    def fewest_by(self, state, entry):
        """Return the fewest trials if this entry is tried first."""
        counts = [self.fewest(result) for result in self.results(state)[entry] if self.answers(result)]
        return None if None in counts else 1 + max(counts)

    def best(self, state):
        if self.fewest(state) in (None, 0):
            return None
        return min(at for at in self.results(state) if self.fewest_by(state, at) == self.fewest(state))

    def plan_length(self, state, plan):
        """Return the length of what may be a plan for a state, or None."""
        answers = self.answers(state)
        if plan == ("impossible",):
            return 0 if not answers else None
        if isinstance(plan, tuple) and len(plan) == 2 and plan[0] == "settled":
            return 0 if answers == [plan[1]] else None
        if not isinstance(plan, tuple) or len(plan) != 4 or plan[0] != "try" or plan[1] not in self.results(state):
            return None
        lengths = [self.plan_length(*both) for both in zip(self.results(state)[plan[1]], plan[2:])]
        return None if None in lengths else 1 + max(lengths)

    def is_book(self, book):
        """Tell whether a dict is a stall book."""
        for state, number in book.items():
            if state not in self.states or number < 1 or len(self.answers(state)) < 2:
                return False
            for results in self.results(state).values():
                good = [
                    self.answers(result) and (number == 1 or book.get(result, 0) >= number - 1)
                    for result in results
                ]
                if not any(good):
                    return False
        return True


def drawn_game(draw, most_entries):
    """Draw a site, trials, a wish, a menu and an allowance; return them with the listing of states.

    Most starts are not settled, and most menus have entries at the edges of the answers.
    """
    while True:
        walls, links, shapes = wide_site(draw, draw.randint(0, 2)) if draw.random() < 0.7 else small_site(draw, 3, 5, 1)
        size = len(shapes[0])
        wish, answer = drawn_wish(draw, size, 7, 1)
        trials = drawn_trials(draw, size, draw.randint(0, 3), 7)
        edges = [(trial.place, trial.height) for _, case in wish.cases() for trial in case] or [(0, 3)]
        edges = draw.sample(edges, min(len(edges), draw.randint(1, 4)))
        menu = [draw.choice(edges) for _ in range(draw.randint(0, most_entries))]
        if draw.random() < 0.3:
            menu = [(place, height + draw.randint(-1, 1)) for place, height in menu]
        misreads = draw.choice([0, 0, 1, 1, 2])
        listing = StateListing(shapes, trials, answer, menu, misreads)
        if len(listing.answers(listing.start)) > 1 or draw.random() < 0.2:
            return walls, links, trials, wish, menu, misreads, listing


def with_trials(told, trials):
    """Return told limits with those that the trials give as well."""
    least = dict(told)
    for trial in trials:
        pair = (-1, trial.place) if trial.reached else (trial.place, -1)
        most = trial.height if trial.reached else -trial.height - 1
        least[pair] = min(most, least[pair])
    return least


def has_shape(size, told, trials):
    """Tell whether some shape agrees with all trials, also where shapes cannot be listed."""
    limits = with_trials(told, trials)
    # After as many rounds as there are nodes, only a ring with a negative sum goes on falling.
    sums = least_sums(size, limits, -1)
    return all(sums[second] <= sums[first] + most for (first, second), most in limits.items())


def sum_of(told, chain):
    return sum(told[pair] for pair in zip(chain, chain[1:]))


@contextmanager
def time_limit(seconds):
    """Fail instead of going on for ages."""

    def stop(number, frame):
        raise AssertionError(f"not done after {seconds} seconds")

    before = signal.signal(signal.SIGALRM, stop)
    signal.alarm(seconds)
    try:
        yield
    finally:
        signal.alarm(0)
        signal.signal(signal.SIGALRM, before)


class ErrorChecks(unittest.TestCase):
    def assert_raises(self, error, worth, call, *args, **kwargs):
        """Check that the call raises this very error, with this one attribute."""
        with self.assertRaises(error) as caught:
            call(*args, **kwargs)
        self.assertIs(caught.exception.__class__, error)
        self.assertEqual(list(vars(caught.exception).values()), [worth])

    def assert_all_raise(self, error, worth, calls, *args, **kwargs):
        for call in calls:
            with self.subTest(call.__name__):
                self.assert_raises(error, worth, call, *args, **kwargs)

    def assert_no_shape(self, shapes, trials, call, *args, **kwargs):
        """Check that the call raises NoShape with blames of these trials as many as the fewest."""
        with self.assertRaises(NoShape) as caught:
            call(*args, **kwargs)
        self.assertIs(caught.exception.__class__, NoShape)
        self.assert_blames(shapes, trials, caught.exception.blames)
        self.assertEqual(len(caught.exception.blames), fewest_of(shapes, trials))

    def assert_blames(self, shapes, trials, blames):
        """Check by a listing of shapes that these are blames without a common trial."""
        self.assertIs(blames.__class__, list)
        numbers = [number for blame in blames for number in blame]
        self.assertEqual(len(set(numbers)), len(numbers))
        for blame in blames:
            self.assertIs(blame.__class__, tuple)
            self.assertIn(len(blame), (1, 2))
            self.assertTrue(all(0 <= number < len(trials) for number in blame))
            if len(blame) == 2:
                self.assertEqual([trials[number].reached for number in blame], [False, True])
            blamed = [trials[number] for number in blame]
            self.assertTrue(all(misreads_of(blamed, heights) for heights in shapes), blame)


class PaperChecks(ErrorChecks):
    def assert_papers(self, told, trials, bounds):
        """Check the papers of Bounds, whose indexes refer to these trials."""
        for place in range(bounds.site.size):
            number, chain = self.parts_of(bounds.high_paper(place), told)
            start, height = (-1, 0) if number == -1 else (trials[number].place, trials[number].height)
            self.assertTrue(number == -1 or trials[number].reached)
            self.assertEqual((chain[0], chain[-1]), (start, place))
            self.assertEqual(height + sum_of(told, chain), bounds.highs()[place])
            number, chain = self.parts_of(bounds.low_paper(place), told)
            end, height = (-1, 0) if number == -1 else (trials[number].place, trials[number].height + 1)
            self.assertTrue(number == -1 or not trials[number].reached)
            self.assertEqual((chain[0], chain[-1]), (place, end))
            self.assertEqual(height - sum_of(told, chain), bounds.lows()[place])

    def parts_of(self, paper, told):
        """Return number and chain of a paper after a look at their kinds."""
        self.assertIs(paper.__class__, tuple)
        number, chain = paper
        self.assertIs(number.__class__, int)
        self.assertGreaterEqual(number, -1)
        self.assertIs(chain.__class__, list)
        for pair in zip(chain, chain[1:]):
            self.assertIn(pair, told)
        return number, chain
