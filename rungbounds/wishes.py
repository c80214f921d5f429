"""Wishes: questions about the shape, with numbered answers."""

from rungbounds.errors import BadNumber
from rungbounds.ladders import check_not_negative
from rungbounds.misread import best_shape, leaves_shape
from rungbounds.trials import Trial, check_places


class Wish:
    """A question about the shape; by itself it asks nothing, and its answer is always 0."""

    def __init__(self, size=1):
        self.size = size

    def cases(self):
        """Return answers with trials: who agrees with all trials of one has its answer."""
        return [(0, [])]

    def answer(self, heights):
        """Return the answer for a list of heights."""
        for answer, trials in self.cases():
            if all([trial.agrees(heights) for trial in trials]):
                return answer

    def places(self):
        """Return the places that the wish names, in order, as often as they are named."""
        return []

    def possible(self, site, trials, *, misreads=0):
        """Return the possible answers, ascending."""
        check_question(site, trials, misreads, self)
        found = {answer: True for answer, sure in self.cases() if leaves_shape(site, trials, misreads, sure)}
        return sorted([int(answer) for answer in found])

    def settled(self, site, trials, *, misreads=0):
        """Return the only possible answer, or None if there are several or none."""
        answers = self.possible(site, trials, misreads=misreads)
        return answers[0] if len(answers) == 1 else None

    def witness(self, site, trials, answer, *, misreads=0):
        """Return a shape with this answer that misreads few enough trials, or None."""
        check_question(site, trials, misreads, self)
        for other, sure in self.cases():
            if other == answer and leaves_shape(site, trials, misreads, sure):
                return best_shape(site, trials, sure=sure)
        return None

    def __and__(self, other):
        return Both(self, other)


class AllWithin(Wish):
    """Asks whether all named places are within their named heights: 1 if so, else 0."""

    def __init__(self, *pairs):
        super().__init__(2)
        self._pairs = list(pairs)

    def cases(self):
        """Return the case in which all places are within, then one for each that is not."""
        reached = [Trial(place, height, True) for place, height in self._pairs]
        return [(1, reached)] + [(0, [~trial]) for trial in reached]

    def places(self):
        """Return the place of each pair in order."""
        return [place for place, _ in self._pairs]


class SomeWithin(Wish):
    """Asks whether some named place is within its named height: 1 if so, else 0."""

    def __init__(self, *pairs):
        super().__init__(2)
        self._pairs = list(pairs)

    def cases(self):
        """Return one case for each place that is within, then the one in which none is."""
        missed = [Trial(place, height, False) for place, height in self._pairs]
        return [(1, [~trial]) for trial in missed] + [(0, missed)]

    def places(self):
        """Return the place of each pair in order."""
        return [place for place, _ in self._pairs]


class Band(Wish):
    """Asks how many of its cuts are less than the height of its place."""

    def __init__(self, place, *cuts):
        for cut, further in zip(cuts, cuts[1:]):
            if further <= cut:
                raise BadNumber(further)
        super().__init__(len(cuts) + 1)
        self._place = place
        self._cuts = list(cuts)

    def cases(self):
        """Return one case for each band between two cuts, from the lowest one on."""
        cases = []
        over = []
        for number, cut in enumerate(self._cuts):
            under = Trial(self._place, cut, True)
            cases.append((number, [*over, under]))
            over = [~under]
        return [*cases, (len(self._cuts), over)]

    def places(self):
        """Return the place, once."""
        return [self._place]


class Both(Wish):
    """Asks two wishes at once: the answer of the first one counts for more."""

    def __init__(self, first, second):
        super().__init__(first.size * second.size)
        self._places = first.places() + second.places()
        more = second.cases()
        self._cases = [
            (answer * second.size + other, trials + added)
            for answer, trials in first.cases()
            for other, added in more
        ]

    def cases(self):
        """Return one case for each two of the wishes, with the trials of both."""
        return [(answer, list(trials)) for answer, trials in self._cases]

    def places(self):
        """Return the places of the first wish and then those of the second one."""
        return list(self._places)


def check_question(site, trials, misreads, wish):
    """Raise the first error that trials, allowance or wish give at a site."""
    check_places(site, trials)
    check_not_negative(misreads)
    for place in wish.places():
        site.check_place(place)
