"""The longest stretches that stand at many places or in many texts (points 401 and 402)."""

from suffixhouse.errors import OutOfRange
from suffixhouse.machines.machine import states


def longest_repeated(house, least):
    """Return the longest stretch that stands at at least so many places, or None."""
    _test_least(least)
    # All words of a class stand equally often, so its longest word is enough.
    return _longest([longest for shortest, longest, pairs, link in states(house) if len(pairs) >= least])


def longest_shared(house, least):
    """Return the longest stretch that stands in at least so many texts, or None."""
    _test_least(least)
    return _longest([longest for shortest, longest, pairs, link in states(house) if text_count(pairs) >= least])


def text_count(pairs):
    """Return in how many texts places, or the pairs where a word ends, are."""
    return len({number for number, index in pairs})


def _test_least(least):
    """Raise an error if a number of places or texts is below 1."""
    if least < 1:
        raise OutOfRange(0)


def _longest(words):
    """Return the longest word, of several the first one as texts, or None.

    The empty word does not count, as it is no stretch.
    """
    best = ""
    for word in sorted(words):
        if len(word) > len(best):
            best = word
    if best == "":
        return None
    return best
