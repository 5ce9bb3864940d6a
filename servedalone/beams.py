"""Beams: the best rows of letters behind a prompt, several of them kept on the way."""

from servedalone.basics import blocks_for
from servedalone.chances import shares_of
from servedalone.errors import NoRoom
from servedalone.plain import check_letters, rows_of
from servedalone.shares import Share
from servedalone.tables import Table


def plain_beams(net, prompt, wide, most):
    """The best rows of up to so many letters, with their shares."""
    beams = [((), Share(1, 1), rows_of(net, prompt))]
    for _ in range(most):
        beams = rows_behind(net, beams, wide)
    return tuple([(row, share) for row, share, _ in beams])


def beams_in(house, prompt, wide, most):
    """The same, with the rows in forked tables in the store of the house."""
    check_letters(house.net, prompt)
    many = 2 * wide * blocks_for(len(prompt) + most, house.store.size)
    if house.store.free < many:
        raise NoRoom(many)
    table = Table(house.store)
    put_letters(house.net, table, prompt)
    beams = [((), Share(1, 1), table)]
    for _ in range(most):
        beams = tables_behind(house.net, beams, wide)
    give_back(beams)
    return tuple([(row, share) for row, share, _ in beams])


def rows_behind(net, beams, wide):
    """The best rows behind these beams, each with what the net reckoned for it."""
    behind = [(row, share, rows[-1][1]) for row, share, rows in beams]
    found = []
    for row, share, place in best_behind(net, behind, wide):
        before, _, rows = beams[place]
        for letter in row[len(before):]:
            rows = rows + (net.row(rows, letter),)
        found.append((row, share, rows))
    return found


def put_letters(net, table, letters):
    """Puts the rows of these letters into the table."""
    for letter in letters:
        table.put_row(net.row(table.rows(), letter))


def tables_behind(net, beams, wide):
    """The best rows behind these beams, each with a table of its own; the tables of before are given back."""
    behind = [(row, share, table.rows()[-1][1]) for row, share, table in beams]
    found = []
    for row, share, place in best_behind(net, behind, wide):
        before, _, table = beams[place]
        other = table.fork()
        put_letters(net, other, row[len(before):])
        found.append((row, share, other))
    give_back(beams)
    return found


def give_back(beams):
    """The tables of these beams are given back."""
    for beam in beams:
        beam[2].cut(0)


def best_behind(net, behind, wide):
    """The best rows behind these, each with its share and the place of the one that it goes on from.

    The ones of before are triples (row, share, weights behind the row).
    """
    found = []
    for place, (row, share, weights) in enumerate(behind):
        if len(row) > 0 and row[-1] == net.end:
            found.append((row, share, place))
        else:
            for letter, part in enumerate(shares_of(weights)):
                found.append((row + (letter,), share * part, place))
    return greatest_first(found, wide)


def greatest_first(found, wide):
    """The wide ones with the greatest shares, of equal ones the lower row first."""
    left = sorted(found, key=lambda triple: triple[0])
    chosen = []
    while len(left) > 0 and len(chosen) < wide:
        best = left[0]
        for triple in left:
            if best[1].is_below(triple[1]):
                best = triple
        chosen.append(best)
        left = [triple for triple in left if triple[0] != best[0]]
    return chosen
