"""Houses to test with, and plain reckonings of what the program has to tell of them."""

from functools import lru_cache
from itertools import product
from random import Random


def words_of(letters, most):
    """Return all words of at most so many of the letters."""
    return ["".join(word) for size in range(most + 1) for word in product(letters, repeat=size)]


def small_houses():
    """Yield many small houses: one, two or three texts, with all kinds of numbers."""
    for text in words_of("ab", 7) + words_of("cba", 4):
        yield [(3, text)]
    for one, two in product(words_of("ab", 3), repeat=2):
        yield [(0, one), (99, two)]
    for texts in product(words_of("ab", 2), repeat=3):
        yield list(zip((7, 10, 11), texts))


def mixed_houses():
    """Yield houses of up to 8 texts, with few and with many letters, always the same ones."""
    chance = Random(20261119)
    for case in range(300):
        letters = ("ab", "abc", "a1:\\ ~", "0123456789")[case % 4]
        numbers = sorted(chance.sample(range(100), chance.randint(1, 8)))
        yield [
            (number, "".join(chance.choices(letters, k=chance.randint(0, 9))))
            for number in numbers
        ]


def large_houses():
    """Yield houses of 8 texts of 40 letters."""
    chance = Random(8 * 40)
    every = "".join(chr(code) for code in range(32, 127) if code != 37)
    yield [(number, "a" * 40) for number in range(8)]
    yield [(number, "ab" * 20) for number in range(92, 100)]
    yield [(number, "a" * number + "b" + "a" * (39 - number)) for number in range(8)]
    yield [(number, every[number:number + 40]) for number in range(8)]
    for letters in ("ab", "abc", every):
        yield [(number * 12, "".join(chance.choices(letters, k=40))) for number in range(8)]


def ends_of_words(house):
    """Return for each inner word the list of the pairs where it ends, ascending."""
    found = {}
    for number, text in house:
        for stop in range(len(text) + 1):
            for start in range(stop + 1):
                pairs = found.setdefault(text[start:stop], [])
                if (number, stop) not in pairs:
                    pairs.append((number, stop))
    return found


def plain_classes(house):
    """Return the lists of words that are alike, in the order of point 205."""
    classes = {}
    for word, pairs in ends_of_words(house).items():
        classes.setdefault(tuple(sorted(pairs)), []).append(word)
    found = [sorted(words, key=len) for words in classes.values()]
    return sorted(found, key=lambda words: (len(words[0]), words[0]))


def plain_numbers(house):
    """Return for each inner word the number of its state."""
    return {word: at for at, words in enumerate(plain_classes(house)) for word in words}


def plain_states(house):
    """Return what `states` has to return for a house that is not empty."""
    ends = ends_of_words(house)
    numbers = plain_numbers(house)
    found = []
    for words in plain_classes(house):
        shortest, longest = words[0], words[-1]
        link = None if shortest == "" else numbers[shortest[1:]]
        found.append((shortest, longest, sorted(ends[shortest]), link))
    return found


def plain_machine(house):
    """Return what `machine` has to return for a house that is not empty."""
    numbers = plain_numbers(house)
    letters = sorted({letter for number, text in house for letter in text})
    classes = plain_classes(house)
    edges = [{} for words in classes] + [{}]
    for word, state in numbers.items():
        for letter in letters:
            if word + letter in numbers:
                edges[state][letter] = numbers[word + letter]
        for number, text in house:
            if text.endswith(word):
                edges[state][number] = len(classes)
    return edges


def plain_ends(house):
    """Return all ends of a house."""
    return sorted((text[start:], number) for number, text in house for start in range(len(text) + 1))


def rows_from(edges, state, last):
    """Return all rows that lead from a state to the last state, as pairs."""
    found = []
    for sign, after in edges[state].items():
        if isinstance(sign, int):
            found += [("", sign)] if after == last else []
        else:
            found += [(sign + letters, mark) for letters, mark in rows_from(edges, after, last)]
    return sorted(found)


def plain_places(house, word):
    """Return all places of a word, tried at every index there could be."""
    return [
        (number, start)
        for number, text in house
        for start in range(len(text) + 1)
        if list(text[start:start + len(word)]) == list(word)
    ]


def plain_stretches(house):
    """Return all stretches by their number of letters, and then as texts."""
    words = [word for word in ends_of_words(house) if word != ""]
    return sorted(words, key=lambda word: (len(word), word))


def letters_of(house, end):
    """Return the letters of an end that is given by its place."""
    number, start = end
    return dict(house)[number][start:]


def plain_order(house):
    """Return the order of a house: each end stands behind those that come before it."""
    ends = [(number, start) for number, text in house for start in range(len(text) + 1)]
    keys = {end: (letters_of(house, end), end[0]) for end in ends}
    found = [None] * len(ends)
    for end in ends:
        found[sum(keys[other] < keys[end] for other in ends)] = end
    return found


def plain_common(house, one, two):
    """Return the greatest number of letters with which both ends begin alike."""
    one, two = letters_of(house, one), letters_of(house, two)
    return max(size for size in range(len(one) + 1) if one[:size] == two[:size])


def plain_commons(house):
    """Return the commons of the order of a house."""
    order = plain_order(house)
    return [0 if at == 0 else plain_common(house, order[at - 1], order[at]) for at in range(len(order))]


def plain_range(house, word):
    """Return the range of a word, counted end by end."""
    ends = sorted(letters for letters, _ in plain_ends(house))
    beginning = [at for at, letters in enumerate(ends) if letters.startswith(word)]
    if beginning:
        return beginning[0], beginning[-1] + 1
    before = sum(letters < word for letters in ends)
    return before, before


def words_near(house):
    """Return words that stand in a house, and words with a letter more, less or exchanged."""
    found = {"", "a", "~", "zz", "a" * 41, "ab" * 30}
    for _, text in house:
        for start, stop in [(0, len(text)), (0, 1), (1, len(text)), (0, len(text) - 1), (2, 5), (3, 9)]:
            word = text[start:max(stop, start)]
            middle = len(word) // 2
            found |= {
                word, word + word, word + "a", "a" + word, word + "~", " " + word, word[:-1], word[1:],
                word[:middle] + word[middle + 1:], word[:middle] + "b" + word[middle + 1:],
                word[:middle] + "~" + word[middle:], word[:-1] + " ", word[:-1] + "~", word + text[:1],
            }
    return sorted(word for word in found if len(word) <= 60)


def few_houses():
    """Yield houses of all kinds, not too many."""
    yield from [
        [], [(4, "")], [(4, ""), (6, "")], [(4, ""), (6, "x")], [(2, "aba"), (5, "b")],
        [(1, "aa"), (2, "aa")], [(0, "xyx"), (4, ""), (9, "xyx")],
        [(number, "ab") for number in range(8)], [(number, "") for number in range(92, 100)],
    ]
    yield from list(small_houses())[::7]
    yield from list(mixed_houses())[::5]


def places_of_words(house):
    """Return for each stretch the list of its places, ascending."""
    found = {}
    for number, text in house:
        for start in range(len(text)):
            for stop in range(start + 1, len(text) + 1):
                found.setdefault(text[start:stop], []).append((number, start))
    return found


def plain_repeated(house, least):
    """Return the longest repeated stretch, or None."""
    words = [word for word, places in places_of_words(house).items() if len(places) >= least]
    return min(words, key=lambda word: (-len(word), word), default=None)


def plain_shared(house, least):
    """Return the longest shared stretch, or None."""
    words = {word for _, text in house for word in places_of_words([(0, text)])}
    words = [word for word in words if sum(word in text for _, text in house) >= least]
    return min(words, key=lambda word: (-len(word), word), default=None)


def plain_single(house, number, index):
    """Return the shortest single stretch over a letter, or None."""
    places = places_of_words(house)
    text = dict(house)[number]
    single = [
        (stop - start, start, stop)
        for start in range(len(text))
        for stop in range(start + 1, len(text) + 1)
        if start <= index < stop and places[text[start:stop]] == [(number, start)]
    ]
    return min(single)[1:] if single else None


def plain_asked(text, index, found):
    """Return the stretches for which a check of a shortest single stretch asks a place."""
    if found is None:
        return [(0, len(text))]
    size = found[1] - found[0] - 1
    return [
        (start, start + size) for start in range(len(text))
        if size > 0 and start <= index < start + size <= len(text)
    ]


def plain_others(house, number, index):
    """Return the least other places of the stretches that stand at other places, too."""
    places = places_of_words(house)
    text = dict(house)[number]
    return {
        (start, stop): min(place for place in places[text[start:stop]] if place != (number, start))
        for start, stop in plain_asked(text, index, plain_single(house, number, index))
    }


@lru_cache(maxsize=None)
def plain_distance(one, two):
    """Return the distance of two words, from their last letters on."""
    row = list(range(len(two) + 1))
    for i, letter in enumerate(one):
        before = row
        row = [i + 1]
        for j, other in enumerate(two):
            row.append(min(before[j + 1] + 1, row[j] + 1, before[j] + (letter != other)))
    return row[-1]
