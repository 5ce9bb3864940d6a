"""Snapshots: a house kept as a value, from which it goes on as if nothing had happened."""

from servedalone.asks import Ask
from servedalone.audits import rows_in
from servedalone.houses import House


def snapshot(house):
    """All of the house but its net, without objects of the package but rules."""
    store = house.store
    rows = tuple([rows_in(house, block) for block in range(store.many)])
    requests = tuple([saved_request(request) for request in house.requests()])
    return store.many, store.size, rows, house.tree.by_last_use(), requests, house.reckoned


def saved_request(request):
    """What was asked, and how far the request has come."""
    asked = request.asked
    return (asked.prompt, asked.most, asked.stops, asked.tape, asked.rule), request.state()


def restore(net, saved):
    """The house with this net that was saved."""
    many, size, rows, paths, requests, reckoned = saved
    house = House(net, many, size)
    take_all(house.store, rows)
    put_paths(house.tree, paths)
    for asked, state in requests:
        begin_again(house, asked, state)
    # Now each block has the holders of before and the one that took it.
    for block in range(many):
        house.store.release(block)
    house.count_reckoned(reckoned)
    return house


def take_all(store, rows):
    """Takes all blocks of a new store, in order, and puts the rows of each into it."""
    for kept in rows:
        block = store.take()
        for row in kept:
            store.put_row(block, row)


def put_paths(tree, paths):
    """Puts these paths, the one used longest ago first, with their blocks into a new tree."""
    # Beginnings first, since a path has its place only behind them.
    for path, block in sorted(paths):
        tree.put(path, block)
    for path, _ in paths:
        tree.known(path)


def begin_again(house, asked, state):
    """The next request of the house is one that was saved."""
    prompt, most, stops, tape, rule = asked
    ticket = house.begin(Ask(prompt, most, stops=stops, tape=tape, rule=rule), ())
    house.request(ticket).set_state(state)
