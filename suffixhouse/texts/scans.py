"""Plain scans of the texts of a house (points 102 to 104)."""


def places(house, word):
    """Return the list of the places where a word stands, ascending."""
    size = len(word)
    found = []
    for number, text in house:
        for start in range(len(text) - size + 1):
            if text[start:start + size] == word:
                found.append((number, start))
    return found


def ends_at(house, word):
    """Return the list of the pairs `(number, stop)` where a word ends, ascending."""
    return [(number, start + len(word)) for number, start in places(house, word)]


def count(house, word):
    """Return the number of places of a word."""
    return len(places(house, word))


def stretches(house):
    """Return all stretches, each once, by their number of letters and then as texts."""
    found = {
        text[start:stop]
        for _, text in house
        for start in range(len(text))
        for stop in range(start + 1, len(text) + 1)
    }
    return sorted(sorted(found), key=len)


def next_letters(house, word):
    """Return the text of the next letters of a word, ascending."""
    texts = dict(house)
    pairs = ends_at(house, word)
    found = {texts[number][stop] for number, stop in pairs if stop < len(texts[number])}
    return "".join(sorted(found))


def next_marks(house, word):
    """Return the list of the next marks of a word, ascending."""
    return [number for number, text in house if text.endswith(word)]


def ends(house):
    """Return the list of all ends as pairs of letters and mark, ascending."""
    return sorted([(text[start:], number) for number, text in house for start in range(len(text) + 1)])
