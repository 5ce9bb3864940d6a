"""Guesses: what a lesser net would write in the place of a house's own."""

from servedalone.basics import is_from
from servedalone.errors import InvalidNumber
from servedalone.plain import rows_of


def lesser_guesses(house, ticket, lesser, many):
    """Up to so many letters that the lesser net would write behind the letters of a going request."""
    request = house.request(ticket)
    if not is_from(many, 1, 8):
        raise InvalidNumber(many)
    if not request.is_going():
        return ()
    guesses = ()
    rows = list(rows_of(lesser, request.whole()))
    while len(guesses) < many:
        choice = request.asked.choice(rows[-1][1], request.written + guesses)
        if choice is None or choice == lesser.end:
            return guesses
        guesses = guesses + (choice,)
        rows.append(lesser.row(rows, choice))
    return guesses
