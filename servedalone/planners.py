"""Planners: in which order the requests of a house advance."""

from servedalone.basics import blocks_for
from servedalone.errors import TooLarge


def needed(house, ticket):
    """How many blocks the request needs at most."""
    asked = house.request(ticket).asked
    # The last letter that may be written is never read.
    return blocks_for(len(asked.prompt) + asked.most - 1, house.store.size)


def turn(house):
    """Each going request comes in if it is out, and advances once; the tickets of those that ended."""
    ended = []
    for ticket in house.going():
        if house.is_out(ticket):
            house.swap_in(ticket)
        ended.extend(house.step(((ticket, 1),)))
    return tuple(ended)


def serve(house):
    """Turns until every request has a word; how many there were."""
    for ticket in house.going():
        if needed(house, ticket) > house.store.many:
            raise TooLarge(ticket)
    turns = 0
    while len(house.going()) > 0:
        first = house.going()[0]
        before = progress(house, first)
        turn(house)
        turns += 1
        if progress(house, first) == before:
            finish_alone(house, first)
    return turns


def progress(house, ticket):
    """What changes when the request comes on."""
    return house.text(ticket), house.length_of(ticket), house.word(ticket)


def finish_alone(house, ticket):
    """The request gets the house for itself until it has a word."""
    for other in house.going():
        if other != ticket:
            house.put_off(other)
    if house.is_out(ticket):
        house.swap_in(ticket)
    while house.word(ticket) is None:
        house.step(((ticket, 1),))
