"""Fleets: several houses with one net, between which requests can move."""

from servedalone.basics import is_from
from servedalone.errors import NoHouse, NoRequest
from servedalone.houses import House


def longest_begun(tree, prompt):
    """The length of the tree's longest path that begins the prompt; 0 if there is none."""
    return max([len(path) for path in tree if prompt[:len(path)] == path], default=0)


class Fleet:
    """Houses with numbers, and tickets that hold good over all of them."""

    def __init__(self, net, shapes):
        self._houses = [House(net, many, size) for many, size in shapes]
        self._places = []

    def ask(self, ask):
        """A new request in the house that knows most of the prompt; its ticket."""
        number = self._best_house(ask.prompt)
        self._places.append((number, self._houses[number].ask(ask)))
        return len(self._places) - 1

    def place(self, ticket):
        """The house where the request is now, and its ticket there."""
        if not is_from(ticket, 0, len(self._places) - 1):
            raise NoRequest(ticket)
        return self._places[ticket]

    def house(self, house):
        """The house with this number."""
        if not is_from(house, 0, len(self._houses) - 1):
            raise NoHouse(house)
        return self._houses[house]

    def move(self, ticket, to):
        """A going request goes on in another house; whether it was moved."""
        number, there = self.place(ticket)
        other = self.house(to)
        request = self._houses[number].request(there)
        if number == to or not request.is_going():
            return False
        self._places[ticket] = (to, other.take_in(request))
        self._houses[number].let_go(there)
        return True

    def fall(self, house):
        """The house falls, and comes back from its log."""
        fallen = self.house(house)
        self._houses[house] = House.come_back(fallen.net, fallen.store.many, fallen.store.size, fallen.log())

    def deliver(self, ticket):
        """What the house where the request is now delivers of it."""
        number, there = self.place(ticket)
        return self._houses[number].deliver(there)

    def word(self, ticket):
        """The request's word where it is now."""
        number, there = self.place(ticket)
        return self._houses[number].word(there)

    def text(self, ticket):
        """The request's text where it is now."""
        number, there = self.place(ticket)
        return self._houses[number].text(there)

    def _best_house(self, prompt):
        """The house with the longest path for the prompt, then with the fewest going requests."""
        ranks = [
            (-longest_begun(house.tree, prompt), len(house.going()), number)
            for number, house in enumerate(self._houses)
        ]
        return min(ranks)[2]
