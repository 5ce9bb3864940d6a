"""Wires: texts sent in packets, which may come in any order, several times, or never."""

from servedalone.basics import is_from
from servedalone.errors import InvalidNumber


def packets(house, ticket, size):
    """The letters that can be sent, in packets of this size."""
    letters = house.sendable(ticket)
    if not is_from(size, 1, 8):
        raise InvalidNumber(size)
    last = whole_length(house, ticket)
    if len(letters) == 0:
        return ((0, (), last),)
    return tuple([(place, letters[place:place + size], last) for place in range(0, len(letters), size)])


def whole_length(house, ticket):
    """The length of a text that is whole; None if there is more to come, or would be but for the asker."""
    if house.word(ticket) in (None, "cancelled"):
        return None
    return len(house.text(ticket))


class Receiver:
    """What is known of a text of which packets come."""

    def __init__(self):
        self._letters = {}
        self._length = None

    def take(self, packet):
        """A packet comes; whether it told something new."""
        place, letters, last = packet
        is_new = last is not None and self._length is None
        if is_new:
            self._length = last
        for number, letter in enumerate(letters):
            if place + number not in self._letters:
                self._letters[place + number] = letter
                is_new = True
        return is_new

    def text(self):
        """The letters up to the first one that is not known."""
        known = []
        while len(known) in self._letters:
            known.append(self._letters[len(known)])
        return tuple(known)

    def is_whole(self):
        """Whether the length is known, and all letters are."""
        return len(self.text()) == self._length
