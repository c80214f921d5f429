"""Plans: which trials of a menu to make next, so that a wish is settled."""

from rungbounds.errors import BadNumber, BadState, TooMany
from rungbounds.misread import (
    alone_between,
    check_shape_left,
    find_edges,
    heights_of,
    most_pairs,
    rivals_among,
    rivals_without,
)
from rungbounds.trials import Trial
from rungbounds.wishes import check_question

MOST_ENTRIES = 6
NOT_TRIED = "."
REACHED = "r"
MISSED = "m"
# A state is open if there are several answers: two of them tell as much as all.
SEVERAL = 2


class Outlook:
    """The states of a menu, and the answers that are possible in them."""

    def __init__(self, site, trials, wish, menu, misreads):
        check_question(site, trials, misreads, wish)
        for place, _ in menu:
            site.check_place(place)
        if len(menu) > MOST_ENTRIES:
            raise TooMany(len(menu))
        self._given = list(trials)
        self._entries = [Trial(place, height, True) for place, height in menu]
        self._misreads = misreads
        # All trials that a state can have: each entry reached, and missed right behind.
        every = self._given + [trial for entry in self._entries for trial in (entry, ~entry)]
        self._rivals = rivals_among(site, every)
        self._cases = _cases_at(site, every, wish)
        self._seen = {}

    def start_state(self):
        """Return the state in which nothing is tried."""
        return NOT_TRIED * len(self._entries)

    def is_state(self, text):
        """Tell whether a text is a state of the menu."""
        if len(text) != len(self._entries):
            return False
        return all([sign in (NOT_TRIED, REACHED, MISSED) for sign in text])

    def untried(self, state):
        """Return the indexes of the entries that are not tried."""
        return [number for number, sign in enumerate(state) if sign == NOT_TRIED]

    def results(self, state, number):
        """Return the states in which an entry is tried as well: reached, and missed."""
        return _with_sign(state, number, REACHED), _with_sign(state, number, MISSED)

    def trials_in(self, state):
        """Return the given trials and those of the entries that are tried."""
        tried = []
        for entry, sign in zip(self._entries, state):
            if sign != NOT_TRIED:
                tried.append(entry if sign == REACHED else ~entry)
        return self._given + tried

    def all_answers(self, state):
        """Return the possible answers of a state, ascending."""
        _, cases = self._look(state)
        answers, _ = self._judged(state, cases, len(cases))
        return sorted([int(answer) for answer in answers])

    def some_answers(self, state):
        """Return the possible answers of a state, but no more than two."""
        answers, _ = self._look(state)
        return list(answers)

    def _look(self, state):
        """Return some answers of a state, and the cases that may be possible there."""
        if state not in self._seen:
            self._seen[state] = self._judged(state, self._cases_before(state), SEVERAL)
        return self._seen[state]

    def _cases_before(self, state):
        """Return the cases that may be possible with one trial less."""
        tried = [number for number, sign in enumerate(state) if sign != NOT_TRIED]
        if not tried:
            return self._cases
        _, cases = self._look(_with_sign(state, tried[-1], NOT_TRIED))
        return cases

    def _judged(self, state, cases, most):
        """Return up to `most` possible answers, and the cases without those found impossible."""
        left_out = self._left_out(state)
        rivals = rivals_without(self._rivals, left_out)
        answers = {}
        left = []
        for answer, alone in cases:
            if answer not in answers and len(answers) < most:
                if not self._is_possible(rivals, [number for number in alone if number not in left_out]):
                    continue
                answers[answer] = True
            left.append((answer, alone))
        return list(answers), left

    def _is_possible(self, rivals, alone):
        """Tell whether few enough trials are misread if those `alone` are by themselves."""
        if len(alone) > self._misreads:
            return False
        return len(alone) + len(most_pairs(rivals_without(rivals, alone))) <= self._misreads

    def _left_out(self, state):
        """Return the numbers of the trials that a state does not have, as keys."""
        left_out = {}
        for number, sign in enumerate(state):
            reached = len(self._given) + 2 * number
            if sign != REACHED:
                left_out[reached] = True
            if sign != MISSED:
                left_out[reached + 1] = True
        return left_out


class Planner:
    """Plans trials of a menu until a wish is settled."""

    def __init__(self, site, trials, wish, menu, *, misreads=0):
        self._outlook = Outlook(site, trials, wish, menu, misreads)
        check_shape_left(site, trials, misreads)
        self._site = site
        self._wish = wish
        self._misreads = misreads
        self._ways = {}

    def start(self):
        """Return the state in which nothing is tried."""
        return self._outlook.start_state()

    def after(self, state, number, reached):
        """Return the state in which an entry of the menu is tried with this result as well."""
        state = self._checked(state)
        if number not in self._outlook.untried(state):
            raise BadNumber(number)
        if_reached, if_missed = self._outlook.results(state, number)
        return if_reached if reached else if_missed

    def trials_of(self, state):
        """Return the given trials and those of the entries that are tried."""
        return self._outlook.trials_in(self._checked(state))

    def answers(self, state=None):
        """Return the answers that are possible in a state, ascending."""
        return self._outlook.all_answers(self._checked(state))

    def fewest(self, state=None):
        """Return how many further trials settle the wish at the worst, or None."""
        fewest, _ = self._way_of(self._possible(state))
        return fewest

    def best(self, state=None):
        """Return the entry to try first, or None."""
        _, number = self._way_of(self._possible(state))
        return number

    def plan(self, state=None):
        """Return a plan with the fewest trials at the worst, or None if there is none."""
        state = self._checked(state)
        answers = self._outlook.some_answers(state)
        if not answers:
            return ("impossible",)
        if len(answers) < SEVERAL:
            return ("settled", answers[0])
        _, number = self._way_of(state)
        if number is None:
            return None
        reached, missed = self._outlook.results(state, number)
        return ("try", number, self.plan(reached), self.plan(missed))

    def stall(self):
        """Return a book of all open states that shows why no plan is shorter."""
        book = {}
        waiting = [self.start()]
        while waiting:
            state = waiting.pop()
            if state not in book and self._is_open(state):
                fewest, _ = self._way_of(state)
                untried = self._outlook.untried(state)
                book[state] = len(untried) + 1 if fewest is None else fewest
                for number in untried:
                    waiting.extend(self._outlook.results(state, number))
        return book

    def twins(self):
        """Return two shapes that no trial of the menu tells apart, and the state, or None."""
        state = self.start()
        if not self._is_lost(state):
            return None
        untried = self._outlook.untried(state)
        for number in untried:
            reached, missed = self._outlook.results(state, number)
            state = reached if self._is_lost(reached) else missed
        first, second = self._outlook.some_answers(state)
        return self._witness(state, first), self._witness(state, second), state

    def _checked(self, state):
        """Return a state, the start state for None; raise BadState if it is none."""
        if state is None:
            return self.start()
        if not self._outlook.is_state(state):
            raise BadState(state)
        return state

    def _possible(self, state):
        """Return a checked state; raise NoShape if it is impossible."""
        state = self._checked(state)
        check_shape_left(self._site, self._outlook.trials_in(state), self._misreads)
        return state

    def _is_open(self, state):
        return len(self._outlook.some_answers(state)) >= SEVERAL

    def _is_lost(self, state):
        """Tell whether no further trials lead from a state to settled ones only."""
        fewest, _ = self._way_of(state)
        return fewest is None

    def _way_of(self, state):
        """Return the fewest further trials and the first entry to try; None stands for neither.

        An impossible state needs no further trials, so that it does not count beside others.
        """
        if state not in self._ways:
            self._ways[state] = self._best_way(state) if self._is_open(state) else (0, None)
        return self._ways[state]

    def _best_way(self, state):
        best = (None, None)
        for number in self._outlook.untried(state):
            trials = self._trials_by(state, number)
            if trials is not None and (best[0] is None or trials < best[0]):
                best = (trials, number)
        return best

    def _trials_by(self, state, number):
        """Return the fewest trials if an entry is tried first, or None."""
        behind = [self._way_of(result)[0] for result in self._outlook.results(state, number)]
        if None in behind:
            return None
        return 1 + max([int(trials) for trials in behind])

    def _witness(self, state, answer):
        trials = self._outlook.trials_in(state)
        return self._wish.witness(self._site, trials, answer, misreads=self._misreads)


def _cases_at(site, trials, wish):
    """Return for each case that some shape is in its answer and the trials to misread.

    These are the numbers of the trials that every shape of the case misreads.
    """
    cases = []
    for answer, sure in wish.cases():
        edges = find_edges(site, sure)
        if edges is not None:
            lows, highs = heights_of(edges[0]), heights_of(edges[1])
            cases.append((answer, alone_between(trials, lows, highs)))
    return cases


def _with_sign(state, number, sign):
    return state[:number] + sign + state[number + 1:]
