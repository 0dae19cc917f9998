"""Distances of words, alignments, and the check of both (points 601 to 605)."""

from suffixhouse.errors import BadStep


def distance(one, two):
    """Return the least number of changes that turn one word into another one."""
    return distance_table(one, two)[0][0]


def distance_table(one, two):
    """Return the distances of both words from each index on."""
    row = list(range(len(two), -1, -1))
    rows = [row]
    for letter in one[::-1]:
        row = _row_above(row, letter, two)
        rows.append(row)
    return rows[::-1]


def alignment(one, two):
    """Return the steps of the told alignment."""
    table = distance_table(one, two)
    steps = []
    i = 0
    j = 0
    while i < len(one) or j < len(two):
        step = _told_step(one, two, table, i, j)
        steps.append(step)
        if step[0] != "put":
            i += 1
        if step[0] != "out":
            j += 1
    return steps


def aligned(one, steps):
    """Return the word into which the steps of an alignment turn a word."""
    letters = []
    at = 0
    for k, step in enumerate(steps):
        if step[0] != "put":
            if not _fits(step, one[at:at + 1]):
                raise BadStep(k)
            at += 1
        if step[0] != "out":
            letters.append(step[-1])
    if at < len(one):
        raise BadStep(len(steps))
    return "".join(letters)


def is_low(one, two, table):
    """Return True if a table is a bound from below, otherwise False."""
    if len(table) != len(one) + 1 or not all([len(row) == len(two) + 1 for row in table]):
        return False
    if table[-1][-1] > 0:
        return False
    return all([_is_low_at(one, two, table, i, j) for i in range(len(one) + 1) for j in range(len(two) + 1)])


def check_distance(one, two, number, steps, table):
    """Return True if an alignment and a table show that a number is the distance."""
    if not is_low(one, two, table) or table[0][0] != number:
        return False
    try:
        word = aligned(one, steps)
    except BadStep:
        return False
    return word == two and _price(steps) == number


def _row_above(below, letter, two):
    """Return the row of a table above another one, for the letter before it."""
    row = [0] * len(two) + [below[-1] + 1]
    for j in range(len(two) - 1, -1, -1):
        if letter == two[j]:
            row[j] = below[j + 1]
        else:
            row[j] = 1 + min(below[j], row[j + 1], below[j + 1])
    return row


def _told_step(one, two, table, i, j):
    """Return the first step of the told alignment of both words from two indexes on."""
    if i < len(one) and j < len(two):
        # No alignment of words that begin alike costs less than one that keeps the letter.
        if one[i] == two[j]:
            return "keep", one[i]
        if table[i][j] == table[i + 1][j + 1] + 1:
            return "change", one[i], two[j]
    if i < len(one) and table[i][j] == table[i + 1][j] + 1:
        return "out", one[i]
    return "put", two[j]


def _fits(step, letter):
    """Return True if a step that takes a letter fits the next letter, a text without letters at the end."""
    if step[1] != letter:
        return False
    return step[0] != "change" or step[1] != step[2]


def _price(steps):
    """Return the number of steps that change something."""
    return len([step for step in steps if step[0] != "keep"])


def _is_low_at(one, two, table, i, j):
    """Return True if an element is low enough beside those below it and to its right."""
    value = table[i][j]
    if i < len(one) and value > table[i + 1][j] + 1:
        return False
    if j < len(two) and value > table[i][j + 1] + 1:
        return False
    if i == len(one) or j == len(two):
        return True
    if one[i] == two[j]:
        return value <= table[i + 1][j + 1]
    return value <= table[i + 1][j + 1] + 1
