"""The classes of a house, told by going through all of its inner words (points 203 and 205)."""


def classes(house):
    """Return shortest word, longest word and pairs of each class, in order."""
    ends = _ends_of_words(house)
    alike = {}
    # Each class begins with its shortest word here, so the classes are met in
    # their order.
    for word in sorted(sorted(ends), key=len):
        alike.setdefault(tuple(ends[word]), []).append(word)
    return [(words[0], words[-1], list(pairs)) for pairs, words in alike.items()]


def _ends_of_words(house):
    """Return for each inner word the list of the pairs where it ends, ascending."""
    found = {}
    for number, text in house:
        for stop in range(len(text) + 1):
            for start in range(stop + 1):
                found.setdefault(text[start:stop], []).append((number, stop))
    return found
