"""Houses: a net that is served to many askers at once, out of one store of blocks."""

from servedalone.asks import Ask
from servedalone.basics import is_from
from servedalone.errors import InvalidNumber, NoRequest
from servedalone.plain import check_ask, check_letters, with_choice
from servedalone.requests import Request
from servedalone.stores import Store
from servedalone.streams import held_back
from servedalone.tables import Table
from servedalone.trees import Tree


class House:
    """Requests with their tables in one store, and a tree of what was read before."""

    def __init__(self, net, many, size):
        self.net = net
        self.store = Store(many, size)
        self.tree = Tree(self.store)
        self._requests = []
        self._reckoned = 0

    @classmethod
    def come_back(cls, net, many, size, log):
        """A new house in which the requests of this log go on."""
        house = cls(net, many, size)
        for prompt, most, stops, tape, rule, text, word, delivered in log:
            ticket = house.begin(Ask(prompt, most, stops=stops, tape=tape, rule=rule), text)
            request = house.request(ticket)
            request.ended = word
            request.sent = delivered
        return house

    @property
    def reckoned(self):
        """How many rows advances have reckoned and put in, and guesses have reckoned."""
        return self._reckoned

    def ask(self, ask):
        """A new request for this ask; its ticket."""
        check_ask(self.net, ask)
        return self.begin(ask, ())

    def begin(self, ask, text):
        """A new request that begins with this text; its ticket."""
        self._requests.append(Request(ask, Table(self.store), text))
        return len(self._requests) - 1

    def request(self, ticket):
        """The request that has this ticket."""
        if not is_from(ticket, 0, len(self._requests) - 1):
            raise NoRequest(ticket)
        return self._requests[ticket]

    def requests(self):
        """All requests, in the order of their tickets."""
        return tuple(self._requests)

    def word(self, ticket):
        """The word that the request ended with; None as long as it is going."""
        return self.request(ticket).ended

    def text(self, ticket):
        """The letters written so far."""
        return self.request(ticket).written

    def blocks_of(self, ticket):
        """The blocks of the request's table."""
        return self.request(ticket).table.blocks

    def length_of(self, ticket):
        """How many rows the request's table has."""
        return self.request(ticket).table.length

    def going(self):
        """The tickets of the going requests, ascending."""
        return tuple([ticket for ticket, request in enumerate(self._requests) if request.is_going()])

    def step(self, plan):
        """Each request of the plan advances as often as it says; the tickets of those that ended."""
        for ticket, _ in plan:
            self.request(ticket)
        for _, many in plan:
            if not is_from(many, 0, 60):
                raise InvalidNumber(many)
        ended = []
        for ticket, many in plan:
            if self._advance_often(self.request(ticket), many):
                ended.append(ticket)
        return tuple(ended)

    def put_off(self, ticket):
        """A going request that is not out gives its table back; whether that had rows."""
        request = self.request(ticket)
        if not request.is_inside():
            return False
        had_rows = request.table.length > 0
        request.table.cut(0)
        return had_rows

    def swap_out(self, ticket):
        """A going request keeps its rows aside and gives its table back; whether it was done."""
        request = self.request(ticket)
        if not request.is_inside():
            return False
        request.aside = request.table.rows()
        request.table.cut(0)
        return True

    def swap_in(self, ticket):
        """A request that is out gets its rows back; whether there was room."""
        request = self.request(ticket)
        if not request.is_aside():
            return False
        while request.table.length < len(request.aside):
            if not self._take_known(request, len(request.aside)):
                if not self._put_row(request, request.aside[request.table.length]):
                    request.table.cut(0)
                    return False
        request.aside = None
        return True

    def is_out(self, ticket):
        """Whether the request is out."""
        return self.request(ticket).is_aside()

    def fork(self, ticket, tape):
        """A new request that goes on from the same text with this tape; its ticket, or None."""
        request = self.request(ticket)
        if not request.is_inside():
            return None
        asked = request.asked
        ask = Ask(asked.prompt, asked.most, stops=asked.stops, tape=tape, rule=asked.rule)
        ticket = self.begin(ask, request.written)
        other = self.request(ticket)
        other.table = request.table.fork()
        return ticket

    def cancel(self, ticket):
        """A going request ends here; whether it was going."""
        request = self.request(ticket)
        if not request.is_going():
            return False
        request.end_with("cancelled")
        return True

    def guess(self, ticket, guesses):
        """Goes on along guesses as far as they are right; how many choices were made."""
        request = self.request(ticket)
        guesses = tuple(guesses)
        check_letters(self.net, guesses)
        if not request.takes_guesses():
            return 0
        rows = list(request.table.rows())
        for letter in request.whole()[-1:] + guesses:
            rows.append(self.net.row(rows, letter))
        self.count_reckoned(len(guesses) + 1)
        return self._go_along(request, guesses, rows[request.table.length:])

    def sendable(self, ticket):
        """The text as far as no stop may still take it off."""
        request = self.request(ticket)
        text = request.written
        if request.is_going() or request.ended == "cancelled":
            return text[:len(text) - held_back(request.asked.stops, text)]
        return text

    def deliver(self, ticket):
        """The letters that can be sent and were not delivered before; they are delivered now."""
        request = self.request(ticket)
        new = self.sendable(ticket)[request.sent:]
        request.sent += len(new)
        return new

    def delivered(self, ticket):
        """How many letters were delivered so far."""
        return self.request(ticket).sent

    def log(self):
        """What a house that comes back has to know of each request."""
        return tuple([request.told() for request in self._requests])

    def take_in(self, request):
        """A request of another house goes on here, out if there is no room; its ticket here."""
        ticket = self.begin(request.asked, request.written)
        here = self.request(ticket)
        here.sent = request.sent
        here.aside = request.reckoned_rows()
        self.swap_in(ticket)
        return ticket

    def let_go(self, ticket):
        """A request that goes on in another house, which delivers the rest, ends here."""
        request = self.request(ticket)
        request.sent = len(request.written)
        request.end_with("cancelled")

    def count_reckoned(self, many):
        """So many rows more were reckoned."""
        self._reckoned += many

    def _advance_often(self, request, many):
        """The request advances so often; whether it ended with that."""
        was_going = request.is_going()
        for _ in range(many):
            if request.is_inside():
                self._advance(request)
        return was_going and not request.is_going()

    def _advance(self, request):
        """One row more for the request, or a block of rows that are known; then perhaps a letter."""
        if not self._take_known(request, len(request.whole())):
            row = self.net.row(request.table.rows(), request.whole()[request.table.length])
            if not self._put_row(request, row):
                return
            self.count_reckoned(1)
        if request.table.length == len(request.whole()):
            self._write(request)

    def _take_known(self, request, many):
        """Takes over the next block from the tree, if the first many rows reach so far; whether it did."""
        there = request.table.length + self.store.size
        if there % self.store.size > 0 or there > many:
            return False
        known = self.tree.known(request.whole()[:there])
        if len(known) * self.store.size < there:
            return False
        request.table.take_over(known[-1])
        return True

    def _put_row(self, request, row):
        """Puts the row into the request's table, and a block that is full into the tree; whether there was room."""
        table = request.table
        while not table.has_room():
            if not self.tree.drop():
                return False
        table.put_row(row)
        if table.length % self.store.size == 0:
            block = self.tree.put(request.whole()[:table.length], table.blocks[-1])
            if block != table.blocks[-1]:
                table.exchange_last(block)
        return True

    def _write(self, request):
        """Writes the next letter by the weights of the table's last row."""
        asked = request.asked
        choice = asked.choice(request.table.rows()[-1][1], request.written)
        request.written, word = with_choice(self.net, asked, request.written, choice)
        if word is not None:
            request.end_with(word)

    def _go_along(self, request, guesses, rows):
        """Puts these rows as long as the letters written are those guessed; how many choices were made."""
        made = 0
        # Behind the last row no guess is left to agree with.
        for row, guessed in zip(rows, guesses + (None,)):
            if not self._put_row(request, row):
                break
            self._write(request)
            made += 1
            if not request.is_going() or request.written[-1] != guessed:
                break
        return made
