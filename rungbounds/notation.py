"""Sites and lists of trials, written as lines of words and read back."""

from rungbounds.errors import BadLine
from rungbounds.sites import Site
from rungbounds.trials import Trial

DIGITS = "0123456789"
MOST_DIGITS = 40
RESULTS = ("reached", "missed")


def write_site(site):
    """Return the lines of a site: its walls, then its links."""
    lines = [_line("wall", name, top, slope, *spans) for name, top, slope, spans in site.walls()]
    return "\n".join(lines + [_line("link", *link) for link in site.links()])


def write_trials(trials):
    """Return the lines of trials."""
    return "\n".join([f"trial {trial}" for trial in trials])


def read_site(text):
    """Return the site that a text tells."""
    walls = []
    links = []
    for number, words in _numbered_lines(text):
        if _is_wall_line(words) and not links:
            name, top, slope, *spans = words[1:]
            walls.append((name, int(top), int(slope), tuple([int(span) for span in spans])))
        elif _is_link_line(words):
            links.append(tuple([int(word) for word in words[1:]]))
        else:
            raise BadLine(number)
    return Site(walls, links)


def read_trials(text):
    """Return the list of the trials that a text tells."""
    trials = []
    for number, words in _numbered_lines(text):
        if not _is_trial_line(words):
            raise BadLine(number)
        _, place, height, result = words
        trials.append(Trial(int(place), int(height), result == "reached"))
    return trials


def _line(*words):
    return " ".join([str(word) for word in words])


def _numbered_lines(text):
    """Return the lines of a text as tuples of their number, from 1 on, and their words."""
    if not text:
        return []
    return [(number, line.split(" ")) for number, line in enumerate(text.split("\n"), start=1)]


def _is_wall_line(words):
    if len(words) < 4 or words[0] != "wall" or not words[1]:
        return False
    return all([_is_number(word) for word in words[2:]])


def _is_link_line(words):
    if len(words) != 5 or words[0] != "link":
        return False
    return all([_is_number(word) for word in words[1:]])


def _is_trial_line(words):
    if len(words) != 4 or words[0] != "trial" or words[3] not in RESULTS:
        return False
    return _is_number(words[1]) and _is_number(words[2])


def _is_number(word):
    """Tell whether a word is written like a number of at most 40 digits."""
    if word == "0":
        return True
    digits = word[1:] if word.startswith("-") else word
    if not 1 <= len(digits) <= MOST_DIGITS or digits.startswith("0"):
        return False
    return all([digit in DIGITS for digit in digits])
