"""Misread trials: how few they can be, which ones, and why they cannot be fewer.

Each trial is a limit between a place and the ground. Trials leave no shape just if they
and the told limits make a ring with a negative sum. A ring passes the ground at most once,
so at most one reached and one missed trial are on it: a trial is at odds with the site by
itself, or with another trial. So the fewest misread trials are those by themselves, and
one of each pair in a choice of as many pairs without a common trial as there can be.
"""

from rungbounds.errors import BadNumber, NoShape
from rungbounds.ladders import check_not_negative
from rungbounds.sites import GROUND
from rungbounds.trials import check_places

NO_TRIAL = -1


def fewest_misread(site, trials, *, sure=()):
    """Return the least number of trials that a shape misreads, or None."""
    blames = find_blames(site, trials, sure=sure)
    if blames is None:
        return None
    return len(blames)


def find_blames(site, trials, *, sure=()):
    """Return as many blames as the fewest misread trials, without a common trial, or None."""
    odds = _find_odds(site, trials, sure)
    if odds is None:
        return None
    alone, rivals = odds
    return [(number,) for number in alone] + list(most_pairs(rivals).items())


def find_suspects(site, trials, *, sure=()):
    """Return the indexes of all trials that a shape with the fewest of them misreads, or None."""
    odds = _find_odds(site, trials, sure)
    if odds is None:
        return None
    alone, rivals = odds
    chosen = alone + _one_of_each(rivals, most_pairs(rivals))
    return [number for number in range(len(trials)) if number in chosen]


def best_shape(site, trials, *, sure=()):
    """Return a shape that misreads as few trials as can be, or None."""
    suspects = find_suspects(site, trials, sure=sure)
    if suspects is None:
        return None
    kept = [trial for number, trial in enumerate(trials) if number not in suspects]
    lows, _ = find_edges(site, [*kept, *sure])
    return heights_of(lows)


def trust(site, trials, number, *, misreads=0):
    """Judge one trial among all shapes that misread at most `misreads` trials."""
    check_places(site, trials)
    check_not_negative(misreads)
    if not 0 <= number < len(trials):
        raise BadNumber(number)
    check_shape_left(site, trials, misreads)
    judged = trials[number]
    others = [trial for at, trial in enumerate(trials) if at != number]
    # A shape that agrees with the opposite misreads the trial itself.
    if not leaves_shape(site, others, misreads - 1, [~judged]):
        return "right"
    if not leaves_shape(site, others, misreads, [judged]):
        return "wrong"
    return "open"


def check_shape_left(site, trials, misreads):
    """Raise NoShape if no shape misreads at most `misreads` of the trials."""
    blames = find_blames(site, trials)
    if len(blames) > misreads:
        raise NoShape(blames)


def leaves_shape(site, trials, misreads, sure):
    """Tell whether a shape that agrees with `sure` misreads at most `misreads` of the trials."""
    fewest = fewest_misread(site, trials, sure=sure)
    return fewest is not None and fewest <= misreads


def find_edges(site, trials):
    """Return the low edges and the high edges of all places, or None.

    It is None if no shape agrees with all trials.
    """
    lows = [_low_edge(site, trials, place) for place in range(site.size)]
    highs = [_high_edge(site, trials, place) for place in range(site.size)]
    if any([low[0] > high[0] for low, high in zip(lows, highs)]):
        return None
    return lows, highs


def heights_of(edges):
    """Return the heights of edges."""
    return [height for height, _, _ in edges]


def _low_edge(site, trials, place):
    """Return the least height that the missed trials leave a place, and why.

    The edge is a tuple of this height, the index of the trial from which it follows, and
    the place of that trial. Where the site alone tells it, NO_TRIAL and GROUND stand there.
    """
    edge = (-site.limit(place, GROUND), NO_TRIAL, GROUND)
    for number, trial in enumerate(trials):
        if not trial.reached:
            height = trial.height + 1 - site.limit(place, trial.place)
            if height > edge[0]:
                edge = (height, number, trial.place)
    return edge


def _high_edge(site, trials, place):
    """Return the greatest height that the reached trials leave a place, and why."""
    edge = (site.limit(GROUND, place), NO_TRIAL, GROUND)
    for number, trial in enumerate(trials):
        if trial.reached:
            height = trial.height + site.limit(trial.place, place)
            if height < edge[0]:
                edge = (height, number, trial.place)
    return edge


def alone_between(trials, lows, highs):
    """Return the numbers of the trials that every shape between these two shapes misreads."""
    # If any shape agrees with a reached trial, the lowest one does; with a missed one, the highest.
    return [
        number
        for number, trial in enumerate(trials)
        if not trial.agrees(lows if trial.reached else highs)
    ]


def rivals_among(site, trials):
    """Return a dict from the number of each missed trial to the list of its rivals.

    Its rivals are the numbers of the reached trials that are at odds with it: no shape
    agrees with both. The limit between their places may lead by the ground, or what is
    surely known may make such a way shorter. This needs no look here: it makes two rings,
    each with one of the trials, so that one of them is misread by every shape.
    """
    reached = [number for number, trial in enumerate(trials) if trial.reached]
    return {
        number: [other for other in reached if _are_rivals(site, trial, trials[other])]
        for number, trial in enumerate(trials)
        if not trial.reached
    }


def rivals_without(rivals, left_out):
    """Return the rivals among the trials whose numbers are not left out."""
    return {
        number: [other for other in others if other not in left_out]
        for number, others in rivals.items()
        if number not in left_out
    }


def _are_rivals(site, missed, reached):
    return reached.height + site.limit(reached.place, missed.place) <= missed.height


def _find_odds(site, trials, sure):
    """Return which trials are at odds among the shapes that agree with `sure`, or None.

    The first part is the list of the trials that every such shape misreads, the second one
    are the rivals among the others. It is None if there is no such shape.
    """
    check_places(site, trials)
    check_places(site, sure)
    edges = find_edges(site, sure)
    if edges is None:
        return None
    alone = alone_between(trials, heights_of(edges[0]), heights_of(edges[1]))
    return alone, rivals_without(rivals_among(site, trials), alone)


def most_pairs(rivals):
    """Return as many pairs of rivals as there can be, as a dict from missed to reached."""
    pairs = {}
    for missed in rivals:
        pairs = _with_one_more(rivals, pairs, missed)
    return pairs


def _with_one_more(rivals, pairs, missed):
    """Return the pairs and one more for a missed trial without one, if that can be."""
    before = _led_to(rivals, pairs, [missed])
    taken = list(pairs.values())
    for reached in before:
        if reached not in taken:
            return _turned(pairs, before, reached)
    return pairs


def _led_to(rivals, pairs, starts):
    """Return the reached trials to which ways lead, each with the missed one before it.

    The ways begin at the missed trials `starts`. They lead from a missed trial to each of
    its rivals, and from a reached trial to the missed one with which it makes a pair.
    """
    partners = {reached: missed for missed, reached in pairs.items()}
    before = {}
    waiting = list(starts)
    while waiting:
        missed = waiting.pop()
        for reached in rivals[missed]:
            if reached not in before:
                before[reached] = missed
                if reached in partners:
                    waiting.append(partners[reached])
    return before


def _turned(pairs, before, reached):
    """Return the pairs after each trial on the way to `reached` took the one before it."""
    turned = dict(pairs)
    while reached is not None:
        missed = before[reached]
        turned[missed] = reached
        reached = pairs.get(missed)
    return turned


def _one_of_each(rivals, pairs):
    """Return one trial of each pair, so that of every two rivals one is among them.

    A missed trial without a pair is not among them, so its rivals are, so their partners
    need not be, and so on along the ways. No way ends at a reached trial without a pair,
    since then one more pair could be made.
    """
    before = _led_to(rivals, pairs, [missed for missed in rivals if missed not in pairs])
    return [reached if reached in before else missed for missed, reached in pairs.items()]
