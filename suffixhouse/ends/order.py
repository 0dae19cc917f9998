"""The order of the ends of a house, their commons and the check of both (points 301, 302 and 306).

An end is given by its place `(number, start)`.
"""

from suffixhouse.ends.ranges import least_common
from suffixhouse.errors import NoText


def order_of(house):
    """Return the list of all ends of a house, in order."""
    rows = [(text[start:], number, start) for number, text in house for start in range(len(text) + 1)]
    return [(number, start) for _, number, start in sorted(rows)]


def common(house, one, two):
    """Return the number of letters with which two ends begin alike."""
    texts = dict(house)
    for k, (number, start) in enumerate((one, two)):
        if number not in texts or not 0 <= start <= len(texts[number]):
            raise NoText(k)
    return _common_size(texts, one, two)


def commons_of(house, order):
    """Return the common of each end with the one before it, and 0 for the first one."""
    texts = dict(house)
    commons = [_common_size(texts, one, two) for one, two in zip(order, order[1:])]
    if len(order) > 0:
        commons.insert(0, 0)
    return commons


def check_order(house, order, commons):
    """Return True if the lists are the order of a house and its commons, otherwise False."""
    if not _has_each_end_once(house, order) or len(commons) != len(order):
        return False
    if len(order) == 0:
        return True
    if commons[0] != 0:
        return False
    texts = dict(house)
    indexes = {(number, start): at for at, (number, start) in enumerate(order)}
    return all([_fits_behind(texts, order, commons, indexes, at) for at in range(1, len(order))])


def _common_size(texts, one, two):
    """Return the common of two ends of the texts, a dict by their numbers."""
    number, start = one
    other, begin = two
    size = 0
    for letter, mate in zip(texts[number][start:], texts[other][begin:]):
        if letter != mate:
            break
        size += 1
    return size


def _has_each_end_once(house, order):
    """Return True if a list of pairs has each end of a house once and nothing else."""
    found = [(number, start) for number, text in house for start in range(len(text) + 1)]
    given = {(number, start): True for number, start in order}
    # As no end is in `found` twice, a list that is as long and has them all
    # has no room for one twice, nor for another pair.
    return len(order) == len(found) and all([end in given for end in found])


def _fits_behind(texts, order, commons, indexes, at):
    """Return True if the end at an index and its common fit the end before it.

    `indexes` tells for each end its index in the order. Ends that begin with the
    same letter are in the right order if they are without it; so no more than
    their first letters are compared.
    """
    m, i = order[at - 1]
    n, j = order[at]
    if i == len(texts[m]):
        return commons[at] == 0 and (j < len(texts[n]) or m < n)
    if j == len(texts[n]):
        return False
    if texts[m][i] != texts[n][j]:
        return commons[at] == 0 and texts[m][i] < texts[n][j]
    first = indexes[(m, i + 1)]
    second = indexes[(n, j + 1)]
    return first < second and commons[at] == 1 + least_common(commons, first, second)
