"""Papers: lists, tuples and dicts that show why an answer is right, and their checks."""

from rungbounds.errors import NoPlace
from rungbounds.ladders import check_not_negative
from rungbounds.misread import best_shape, find_blames, find_edges
from rungbounds.plans import NOT_TRIED, SEVERAL, Outlook
from rungbounds.sites import GROUND
from rungbounds.trials import check_places, misread_numbers, pinned


def chain_sum(site, chain):
    """Return the sum of the least told limits from node to node, or None if one is missing."""
    site.check_nodes(*chain)
    limits = [site.told(first, second) for first, second in zip(chain, chain[1:])]
    return None if None in limits else sum(limits)


def check_shape(site, trials, heights, *, misreads=0, sure=()):
    """Tell whether heights are a shape that misreads at most `misreads` trials."""
    check_places(site, trials)
    check_places(site, sure)
    check_not_negative(misreads)
    if not site.fits(heights) or misread_numbers(sure, heights):
        return False
    return len(misread_numbers(trials, heights)) <= misreads


def check_blames(site, trials, blames, *, sure=()):
    """Tell whether all tuples are blames, of which no two have a trial in common."""
    check_places(site, trials)
    check_places(site, sure)
    seen = {}
    for blame in blames:
        if not _is_blame(site, trials, blame, sure):
            return False
        for number in blame:
            if number in seen:
                return False
            seen[number] = True
    return True


def height_paper(site, trials, place, height, *, misreads=0):
    """Return the paper that tells why a height is possible at a place or is not."""
    _check_height_asked(site, trials, place, misreads)
    if height > site.limit(GROUND, place):
        return "limit", site.chain(GROUND, place)
    if height < -site.limit(place, GROUND):
        return "limit", site.chain(place, GROUND)
    sure = pinned(place, height)
    blames = find_blames(site, trials, sure=sure)
    if len(blames) > misreads:
        return "blames", blames
    return "shape", best_shape(site, trials, sure=sure)


def check_height(site, trials, place, height, paper, *, misreads=0):
    """Tell what a paper shows of a height at a place: "possible", "impossible" or "wrong"."""
    _check_height_asked(site, trials, place, misreads)
    word, rows = paper
    sure = pinned(place, height)
    if word == "shape" and check_shape(site, trials, rows, misreads=misreads, sure=sure):
        return "possible"
    if word == "limit" and _bars_height(site, rows, place, height):
        return "impossible"
    if word == "blames" and len(rows) > misreads and check_blames(site, trials, rows, sure=sure):
        return "impossible"
    return "wrong"


def check_plan(site, trials, wish, menu, plan, *, misreads=0):
    """Return the length of a plan for the start state, or None if it is none."""
    outlook = Outlook(site, trials, wish, menu, misreads)
    return _length_of(outlook, outlook.start_state(), plan)


def check_stall(site, trials, wish, menu, book, *, misreads=0):
    """Return the number of the start state in a stall book or 0, or None if it is none."""
    outlook = Outlook(site, trials, wish, menu, misreads)
    for state, number in book.items():
        if not outlook.is_state(state) or number < 1:
            return None
        if len(outlook.some_answers(state)) < SEVERAL or not _is_stalled(outlook, book, state):
            return None
    return book.get(outlook.start_state(), 0)


def check_twins(site, trials, wish, menu, twins, *, misreads=0):
    """Tell whether two shapes differ in their answers, although a state without dots allows both."""
    outlook = Outlook(site, trials, wish, menu, misreads)
    first, second, state = twins
    if not outlook.is_state(state) or NOT_TRIED in state:
        return False
    told = outlook.trials_in(state)
    for heights in (first, second):
        if not check_shape(site, told, heights, misreads=misreads):
            return False
    return wish.answer(first) != wish.answer(second)


def _is_blame(site, trials, blame, sure):
    """Tell whether every shape that agrees with `sure` misreads one of the trials of a tuple."""
    if not all([0 <= number < len(trials) for number in blame]):
        return False
    blamed = [trials[number] for number in blame]
    words = [trial.reached for trial in blamed]
    if len(words) != 1 and words != [False, True]:
        return False
    return find_edges(site, [*sure, *blamed]) is None


def _check_height_asked(site, trials, place, misreads):
    check_places(site, trials)
    site.check_place(place)
    check_not_negative(misreads)


def _bars_height(site, chain, place, height):
    """Tell whether a chain between the ground and a place shows that no shape has the height."""
    try:
        total = chain_sum(site, chain)
    except NoPlace:
        return False
    if total is None or len(chain) < 2:
        return False
    ends = (chain[0], chain[-1])
    if ends == (GROUND, place):
        return total < height
    return ends == (place, GROUND) and -total > height


def _length_of(outlook, state, plan):
    """Return the length of a plan for a state, or None if it is none.

    An entry is tried once only, so that no plan leads deeper than the menu is long.
    """
    if not isinstance(plan, tuple):
        return None
    answers = outlook.some_answers(state)
    if plan == ("impossible",):
        return None if answers else 0
    if len(plan) == 2 and plan[0] == "settled":
        return 0 if answers == [plan[1]] else None
    if len(plan) != 4 or plan[0] != "try" or plan[1] not in outlook.untried(state):
        return None
    results = outlook.results(state, plan[1])
    lengths = [_length_of(outlook, result, part) for result, part in zip(results, plan[2:])]
    return None if None in lengths else 1 + max([int(length) for length in lengths])


def _is_stalled(outlook, book, state):
    """Tell whether each entry that is not tried has a result that a book says enough of.

    An open state is possible, so one of the results is possible as well: this is enough
    for the number 1. A result that is in the book is looked at there.
    """
    behind = book[state] - 1
    for number in outlook.untried(state):
        if all([book.get(result, 0) < behind for result in outlook.results(state, number)]):
            return False
    return True
