"""Papers for machines, and their check (points 501 to 503)."""

from suffixhouse.errors import OutOfRange
from suffixhouse.machines.machine import state_of, states
from suffixhouse.texts.house import text_of


def machine_paper(house):
    """Return the shortest word and the pairs of each state but the last one."""
    return [(shortest, pairs) for shortest, longest, pairs, link in states(house)]


def check_machine(house, edges, paper):
    """Return True if a machine and its paper fit a house, otherwise False."""
    if len(house) == 0:
        return edges == [{}] and paper == [("", [])]
    last = len(paper)
    if last == 0 or len(edges) != last + 1 or len(edges[last]) > 0:
        return False
    if paper[0][1] != [(number, stop) for number, text in house for stop in range(len(text) + 1)]:
        return False
    if not all([state_of(edges, word) == state for state, (word, pairs) in enumerate(paper)]):
        return False
    if len({tuple(pairs) for word, pairs in paper}) != last:
        return False
    texts = dict(house)
    return all([_has_right_edges(texts, edges[state], paper, state) for state in range(last)])


def telling_row(house, paper, i, j):
    """Return the row behind the least pair that one of two states has and the other one has not."""
    if i == j or not 0 <= i < len(paper) or not 0 <= j < len(paper):
        raise OutOfRange(0)
    number, stop = sorted(set(paper[i][1]) ^ set(paper[j][1]))[0]
    return text_of(house, number)[stop:], number


def _has_right_edges(texts, row, paper, state):
    """Return True if the edges of a state, a dict, are those that its pairs ask for."""
    behind, marks = _next_of(texts, paper[state][1])
    if len(row) != len(behind) + len(marks):
        return False
    if not all([row.get(mark) == len(paper) for mark in marks]):
        return False
    return all([_leads_to(row.get(letter), paper, pairs) for letter, pairs in behind.items()])


def _next_of(texts, pairs):
    """Return what follows in the texts behind pairs from anywhere, as two dicts.

    One has for each next letter the pairs behind it, the other one has the next
    marks. Pairs that are not in the texts have nothing behind them.
    """
    behind = {}
    marks = {}
    for number, stop in pairs:
        if number not in texts:
            continue
        if 0 <= stop < len(texts[number]):
            behind.setdefault(texts[number][stop], []).append((number, stop + 1))
        elif stop == len(texts[number]):
            marks[number] = True
    return behind, marks


def _leads_to(state, paper, pairs):
    """Return True if the state to which an edge leads, or None, has these pairs in the paper."""
    return state is not None and state < len(paper) and paper[state][1] == sorted(pairs)
