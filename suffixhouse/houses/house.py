"""Houses that keep their texts, machine, order and history while they change (points 701 to 703)."""

from suffixhouse.ends.order import commons_of
from suffixhouse.ends.ranges import order_with, order_without
from suffixhouse.errors import NoChange
from suffixhouse.machines.machine import machine_and_pairs, state_of
from suffixhouse.texts.house import text_of, with_text, without_text


class House:
    """A house into which texts are put and from which they are taken."""

    def __init__(self):
        self._history = []
        self._keep([], [])

    def put(self, number, text):
        """Put a text in."""
        house = with_text(self._house, number, text)
        self._keep(house, order_with(self._house, self._order, number, text))
        self._history.append(("put", number, text))

    def take(self, number):
        """Take a text out and return it."""
        text = text_of(self._house, number)
        house = without_text(self._house, number)
        self._keep(house, order_without(self._house, self._order, number))
        self._history.append(("take", number, text))
        return text

    def back(self):
        """Undo the last change, as a change of its own."""
        if len(self._history) == 0:
            raise NoChange(0)
        change, number, text = self._history[-1]
        if change == "put":
            self.take(number)
        else:
            self.put(number, text)

    def texts(self):
        """Return the list of the pairs `(number, text)`, ascending."""
        return list(self._house)

    def machine(self):
        """Return the machine: a dict of edges for each state."""
        return [dict(row) for row in self._edges]

    def order(self):
        """Return the list of all ends, in order."""
        return list(self._order)

    def commons(self):
        """Return the commons of the order."""
        return list(self._commons)

    def history(self):
        """Return the list of all changes."""
        return list(self._history)

    def places(self, word):
        """Return the list of the places where a word stands, ascending."""
        state = state_of(self._edges, word)
        if state is None:
            return []
        return [(number, stop - len(word)) for number, stop in self._pairs[state]]

    def count(self, word):
        """Return the number of places of a word."""
        return len(self.places(word))

    def copy(self):
        """Return an independent house with the same texts and the same history."""
        other = House()
        other._keep(list(self._house), list(self._order))
        other._history = list(self._history)
        return other

    def _keep(self, house, order):
        """Keep the texts, their order and what follows from them."""
        self._house = house
        self._order = order
        self._commons = commons_of(house, order)
        self._edges, self._pairs = machine_and_pairs(house)
