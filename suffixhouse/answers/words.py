"""Words that are missing, that stand once, and how many there are (points 403 to 405)."""

from suffixhouse.errors import OutOfRange
from suffixhouse.texts.house import text_of
from suffixhouse.texts.scans import count, stretches


def absent_words(house, alphabet):
    """Return the least absent words by their number of letters and then as texts."""
    if alphabet == "" or len(set(alphabet)) != len(alphabet):
        raise OutOfRange(0)
    words = [word for word in stretches(house) if _consists_of(word, alphabet)]
    known = {word: True for word in words}
    behind = _letters_behind(words)
    found = [letter for letter in alphabet if letter not in known]
    for word in words:
        # With any of these letters behind it, the word without its first letter is a stretch.
        for letter in behind.get(word[1:], []):
            if word + letter not in known:
                found.append(word + letter)
    return sorted(sorted(found), key=len)


def shortest_single(house, number, index):
    """Return the shortest single stretch over a letter as a pair, or None."""
    text = text_with_letter(house, number, index)
    for size in range(1, len(text) + 1):
        for start, stop in stretches_over(text, index, size):
            if count(house, text[start:stop]) == 1:
                return start, stop
    return None


def stretch_counts(house):
    """Return for 1, 2 and more letters how many different stretches have so many."""
    counts = []
    # They come by their number of letters, and no number is left out: a stretch
    # without its last letter is a stretch, too.
    for word in stretches(house):
        if len(word) > len(counts):
            counts.append(0)
        counts[-1] += 1
    return counts


def text_with_letter(house, number, index):
    """Return the text with a number, if it has a letter at an index."""
    text = text_of(house, number)
    if not 0 <= index < len(text):
        raise OutOfRange(index)
    return text


def stretches_over(text, index, size):
    """Return the stretches of a text with so many letters that are over an index, ascending."""
    first = max(0, index - size + 1)
    greatest = min(index, len(text) - size)
    return [(start, start + size) for start in range(first, greatest + 1)]


def _consists_of(word, alphabet):
    """Return True if all letters of a word are in an alphabet."""
    return all([letter in alphabet for letter in word])


def _letters_behind(words):
    """Return for each word without its last letter the list of these last letters."""
    found = {}
    for word in words:
        found.setdefault(word[:-1], []).append(word[-1])
    return found
