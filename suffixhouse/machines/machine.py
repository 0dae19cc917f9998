"""The machine of a house, built letter by letter (points 201 to 206)."""


class Growth:
    """The classes of a house with their edges for letters.

    A list each holds, for every class: its edges, the number of letters of its
    longest word, and its link. `ways` has for each text its number and the
    classes of its beginnings, from the empty word to the whole text.
    """

    def __init__(self, house):
        self.edges = [{}]
        self.sizes = [0]
        self.links = [None]
        self.ways = []
        for number, text in house:
            self.ways.append((number, self._way_of(text)))
        self._put_in_order()

    def linked(self, state):
        """Return a class, its link, the link of this, and so on up to the start."""
        found = []
        while state is not None:
            found.append(state)
            state = self.links[state]
        return found

    def pairs(self):
        """Return for each class the pairs where its words end, ascending."""
        found = [[] for link in self.links]
        for number, way in self.ways:
            for stop, state in enumerate(way):
                found[state].append((number, stop))
        # A link has a smaller number than its class, as its shortest word is
        # shorter. So, going downwards, each class is complete when it is reached.
        for state in range(len(found) - 1, 0, -1):
            link = self.links[state]
            found[link] = found[link] + found[state]
        return [sorted(row) for row in found]

    def marked_edges(self):
        """Return the edges of each class and of the last state, with those of the marks."""
        last = len(self.edges)
        found = [dict(row) for row in self.edges]
        found.append({})
        for number, way in self.ways:
            # These are the classes of all words with which the text ends.
            for state in self.linked(way[-1]):
                found[state][number] = last
        return found

    def least_size(self, state):
        """Return the number of letters of the shortest word of a class."""
        link = self.links[state]
        if link is None:
            return 0
        return self.sizes[link] + 1

    def _way_of(self, text):
        """Put a text in and return the classes of its beginnings."""
        way = [0]
        state = 0
        for letter in text:
            state = self._after(state, letter)
            way.append(state)
        return way

    def _after(self, state, letter):
        """Put in the longest word of a class with a letter behind it; return its class.

        It is the longest word of the class that is returned.
        """
        if letter in self.edges[state]:
            return self._led_to(state, letter)
        fresh = self._add(self.sizes[state] + 1, {}, 0)
        shorter = state
        while shorter is not None and letter not in self.edges[shorter]:
            self.edges[shorter][letter] = fresh
            shorter = self.links[shorter]
        if shorter is not None:
            self.links[fresh] = self._led_to(shorter, letter)
        return fresh

    def _led_to(self, state, letter):
        """Return the class to which an edge leads, after splitting it if needed.

        It is split if its longest word is longer than that of the class before
        the edge with the letter: from now on its shorter words end at places
        where the longest one does not.
        """
        old = self.edges[state][letter]
        size = self.sizes[state] + 1
        if self.sizes[old] == size:
            return old
        split = self._add(size, self.edges[old], self.links[old])
        self.links[old] = split
        shorter = state
        while shorter is not None and self.edges[shorter].get(letter) == old:
            self.edges[shorter][letter] = split
            shorter = self.links[shorter]
        return split

    def _add(self, size, edges, link):
        """Add a class and return its number."""
        self.edges.append(dict(edges))
        self.sizes.append(size)
        self.links.append(link)
        return len(self.edges) - 1

    def _put_in_order(self):
        """Number the classes as point 205 tells."""
        order = self._in_breadth()
        numbers = {state: at for at, state in enumerate(order)}
        links = [self.links[state] for state in order]
        self.edges = [_renamed(self.edges[state], numbers) for state in order]
        self.sizes = [self.sizes[state] for state in order]
        self.links = [None if link is None else numbers[link] for link in links]
        self.ways = [(number, [numbers[state] for state in way]) for number, way in self.ways]

    def _in_breadth(self):
        """Return the classes as they are met from the start, short words first.

        A shortest word without its last letter is a shortest word, too. So this
        is the order of the shortest words, and no words need to be compared.
        """
        order = [0]
        met = {0: True}
        at = 0
        while at < len(order):
            edges = self.edges[order[at]]
            for letter in sorted(edges):
                state = edges[letter]
                if state not in met:
                    met[state] = True
                    order.append(state)
            at += 1
        return order


def machine(house):
    """Return the machine of a house: a dict of edges for each state."""
    if len(house) == 0:
        return [{}]
    return Growth(house).marked_edges()


def machine_and_pairs(house):
    """Return the machine and, for each state but the last one, the pairs where its words end.

    For an empty house the start has no pairs.
    """
    if len(house) == 0:
        return [{}], [[]]
    growth = Growth(house)
    return growth.marked_edges(), growth.pairs()


def states(house):
    """Return shortest word, longest word, pairs and link of each state but the last one."""
    if len(house) == 0:
        return [("", "", [], None)]
    growth = Growth(house)
    texts = dict(house)
    found = []
    for state, pairs in enumerate(growth.pairs()):
        number, stop = pairs[0]
        shortest = texts[number][stop - growth.least_size(state):stop]
        longest = texts[number][stop - growth.sizes[state]:stop]
        found.append((shortest, longest, pairs, growth.links[state]))
    return found


def state_of(edges, word):
    """Return the number of the state to which a word leads, or None."""
    state = 0
    for letter in word:
        if letter not in edges[state]:
            return None
        state = edges[state][letter]
    return state


def takes(edges, word, mark):
    """Return True if the row of a word and a mark leads to a state."""
    state = state_of(edges, word)
    return state is not None and mark in edges[state]


def edge_count(edges):
    """Return the number of all edges."""
    return sum([len(row) for row in edges])


def _renamed(edges, numbers):
    """Return edges that lead to the new numbers of their states, letters ascending."""
    return {letter: numbers[edges[letter]] for letter in sorted(edges)}
