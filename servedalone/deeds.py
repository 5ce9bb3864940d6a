"""Deeds: calls of a house's methods as values, done again in another house; and the picture of a house."""

from servedalone.audits import rows_in
from servedalone.errors import ServeError
from servedalone.houses import House


def do(house, deed):
    """Calls the method that the deed names with the deed's arguments; its result."""
    name, *told = deed
    if name == "ask":
        return house.ask(*told)
    if name == "step":
        return house.step(*told)
    if name == "put_off":
        return house.put_off(*told)
    if name == "swap_out":
        return house.swap_out(*told)
    if name == "swap_in":
        return house.swap_in(*told)
    if name == "fork":
        return house.fork(*told)
    if name == "cancel":
        return house.cancel(*told)
    if name == "guess":
        return house.guess(*told)
    return house.deliver(*told)


def picture(house):
    """The rows and the holders of the blocks, the requests, and the paths with their blocks as drop would take them."""
    blocks = range(house.store.many)
    rows = tuple([rows_in(house, block) for block in blocks])
    held = tuple([house.store.holders(block) for block in blocks])
    requests = tuple([request_picture(request) for request in house.requests()])
    return rows, held, requests, house.tree.by_last_use()


def request_picture(request):
    """What a picture has of a request."""
    asked = request.asked
    start, steps = None, None
    if asked.rule is not None:
        start, steps = asked.rule.start, asked.rule.steps
    return (asked.prompt, asked.most, asked.stops, asked.tape, start, steps) + request.state()


def redo(net, many, size, deeds):
    """A new house to which these deeds were done; those that raise an error of the package are passed over."""
    house = House(net, many, size)
    for deed in deeds:
        try:
            do(house, deed)
        except ServeError:
            pass
    return house
