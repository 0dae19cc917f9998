"""What the order of a house and its commons tell, and how it changes (points 303 to 305)."""

from suffixhouse.errors import OutOfRange
from suffixhouse.texts.house import with_text, without_text


def range_of(house, order, word):
    """Return the range of a word, a pair of indexes of the order."""
    texts = dict(house)
    return _count_before(texts, order, word, False), _count_before(texts, order, word, True)


def stretch_count(house, order, commons):
    """Return the number of all stretches of a house."""
    texts = dict(house)
    return sum([len(texts[number]) - start for number, start in order]) - sum(commons)


def least_common(commons, i, j):
    """Return the common of the ends at two indexes of the order, of which `i` is the less."""
    if not 0 <= i < j < len(commons):
        raise OutOfRange(0)
    return min(commons[i + 1:j + 1])


def order_with(house, order, number, text):
    """Return the order of a house with a further text."""
    texts = dict(with_text(house, number, text))
    fresh = sorted([(text[start:], number, start) for start in range(len(text) + 1)])
    found = []
    at = 0
    for other, begin in order:
        row = (texts[other][begin:], other, begin)
        while at < len(fresh) and fresh[at] < row:
            found.append(fresh[at][1:])
            at += 1
        found.append((other, begin))
    return found + [row[1:] for row in fresh[at:]]


def order_without(house, order, number):
    """Return the order of a house without a text."""
    texts = dict(without_text(house, number))
    return [(other, start) for other, start in order if other in texts]


def _count_before(texts, order, word, with_word):
    """Return how many ends are ordered before all texts that begin with a word.

    If `with_word` is True, the ends that begin with the word are counted, too.
    """
    low = 0
    high = len(order)
    while low < high:
        middle = (low + high) // 2
        number, start = order[middle]
        letters = texts[number][start:start + len(word)]
        if letters < word or (with_word and letters == word):
            low = middle + 1
        else:
            high = middle
    return low
