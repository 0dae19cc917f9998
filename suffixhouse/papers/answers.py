"""Papers for answers, and their checks (points 504 to 507)."""

from suffixhouse.answers.longest import text_count
from suffixhouse.answers.words import shortest_single, stretches_over, text_with_letter
from suffixhouse.errors import OutOfRange
from suffixhouse.texts.house import text_of
from suffixhouse.texts.scans import count, places


def stretch_table(house, size):
    """Return for each stretch with so many letters the list of its places, ascending."""
    if size < 1:
        raise OutOfRange(0)
    table = {}
    for number, text in house:
        for start in range(len(text) - size + 1):
            table.setdefault(text[start:start + size], []).append((number, start))
    return table


def check_repeated(house, least, found, table):
    """Return True if a table shows that a longest repeated stretch, or None, is right."""
    if not _is_table_for(house, found, table):
        return False
    if found is not None and count(house, found) < least:
        return False
    return all([len(row) < least for row in table.values()])


def check_shared(house, least, found, table):
    """Return True if a table shows that a longest shared stretch, or None, is right."""
    if not _is_table_for(house, found, table):
        return False
    if found is not None and text_count(places(house, found)) < least:
        return False
    return all([text_count(row) < least for row in table.values()])


def single_places(house, number, index):
    """Return places that show that the shortest single stretch over a letter is right."""
    found = shortest_single(house, number, index)
    text = text_of(house, number)
    return {
        (start, stop): _other_places(house, text[start:stop], (number, start))[0]
        for start, stop in _asked_stretches(text, index, found)
    }


def check_single(house, number, index, found, others):
    """Return True if places show that a shortest single stretch, or None, is right."""
    text = text_with_letter(house, number, index)
    if found is not None and not _is_single_over(house, text, index, found):
        return False
    for start, stop in _asked_stretches(text, index, found):
        if (start, stop) not in others:
            return False
        if others[(start, stop)] not in _other_places(house, text[start:stop], (number, start)):
            return False
    return True


def _is_table_for(house, found, table):
    """Return True if a table is that of all stretches with a letter more than a text, or None."""
    if found is None:
        return table == stretch_table(house, 1)
    return found != "" and table == stretch_table(house, len(found) + 1)


def _asked_stretches(text, index, found):
    """Return the stretches that have to stand at another place, too."""
    if found is None:
        return [(0, len(text))]
    start, stop = found
    return stretches_over(text, index, stop - start - 1)


def _other_places(house, word, own):
    """Return the places of a word other than its own one, ascending."""
    return [place for place in places(house, word) if place != own]


def _is_single_over(house, text, index, found):
    """Return True if a pair from anywhere is a single stretch over a letter of a text."""
    start, stop = found
    if not 0 <= start <= index < stop <= len(text):
        return False
    return count(house, text[start:stop]) == 1
