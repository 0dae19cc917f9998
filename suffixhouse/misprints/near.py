"""Where a word stands with misprints (points 606 and 607)."""

from suffixhouse.errors import OutOfRange
from suffixhouse.misprints.distance import distance_table

_MOST_CHANGES = 3


def near_places(house, word, most):
    """Return the list of the near places of a word for so many changes, ascending."""
    if not 0 <= most <= _MOST_CHANGES:
        raise OutOfRange(most)
    return [place for place in _places_with_distance(house, word) if place[3] <= most]


def nearest(house, word):
    """Return the nearest place of a word, or None for an empty house."""
    return min(_places_with_distance(house, word), key=lambda place: place[3], default=None)


def _places_with_distance(house, word):
    """Return all stretches of the texts, and those without letters, with their distances, ascending."""
    found = []
    for number, text in house:
        for stop in range(len(text) + 1):
            # One table has the distances of all stretches that stop here.
            table = distance_table(text[:stop], word)
            found.extend([(number, start, stop, row[0]) for start, row in enumerate(table)])
    return sorted(found)
