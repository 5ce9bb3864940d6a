"""A slow house and a slow fleet, which follow the document word for word, for the tests to hold the program against.

Nothing is counted here: who holds a block is looked up among the tables and the paths, and what was used longest ago
stands first in a list.
"""

import copy

from tests.helpers import chosen, reckoned_row


class SlowRequest:
    def __init__(self, prompt, most, stops, tape, rule, text):
        self.prompt, self.most, self.stops, self.tape, self.rule = prompt, most, stops, tape, rule
        self.text = self.begun = tuple(text)
        # What it began with before any fall.
        self.first = self.begun
        self.word = None
        self.blocks = []
        self.length = 0
        self.aside = None
        self.delivered = 0

    @property
    def letters(self):
        return self.prompt + self.text

    def is_inside(self):
        return self.word is None and self.aside is None

    def give_back(self):
        self.blocks, self.length = [], 0


def of_ask(ask, text=()):
    return SlowRequest(ask.prompt, ask.most, ask.stops, ask.tape, ask.rule, text)


class SlowHouse:
    def __init__(self, parts, many, size):
        self.parts, self.many, self.size = parts, many, size
        self.requests = []
        self.paths = []
        self.filled = {}
        self.reckoned = 0
        self.memo = {}

    # Memory.

    def holders(self, block):
        tables = [request for request in self.requests if block in request.blocks]
        return len(tables) + len([path for path, under in self.paths if under == block])

    def rows(self, block):
        return tuple(self.filled[block]) if self.holders(block) else ()

    def row_at(self, request, place):
        return self.filled[request.blocks[place // self.size]][place % self.size]

    def row_of(self, letters):
        """The row of the last of these letters."""
        if letters not in self.memo:
            before = tuple(self.row_of(letters[:end]) for end in range(1, len(letters)))
            self.memo[letters] = reckoned_row(self.parts, before, letters[-1])
        return self.memo[letters]

    def take(self):
        free = [block for block in range(self.many) if not self.holders(block)]
        if not free:
            return None
        self.filled[free[0]] = []
        return free[0]

    def put_row(self, request, row):
        own = request.length % self.size
        if own == 0:
            block = self.take()
            if block is None:
                return False
            request.blocks.append(block)
        elif self.holders(request.blocks[-1]) > 1:
            kept = self.filled[request.blocks[-1]][:own]
            block = self.take()
            if block is None:
                return False
            self.filled[block] = kept
            request.blocks[-1] = block
        else:
            del self.filled[request.blocks[-1]][own:]
        self.filled[request.blocks[-1]].append(row)
        request.length += 1
        return True

    # The tree: pairs of a path and its block, the one used last at the end.

    def use(self, letters):
        used = [pair for pair in self.paths if letters[:len(pair[0])] == pair[0]]
        for pair in sorted(used, key=lambda pair: -len(pair[0])):
            self.paths.remove(pair)
            self.paths.append(pair)

    def known(self, letters):
        self.use(letters)
        found = [pair for pair in self.paths if letters[:len(pair[0])] == pair[0]]
        return tuple(block for _, block in sorted(found, key=lambda pair: len(pair[0])))

    def tree_put(self, path, block):
        under = dict(self.paths)
        if path not in under and (len(path) <= self.size or path[:-self.size] in under):
            self.paths.append((path, block))
        self.use(path)
        return under.get(path, block)

    def drop(self):
        for path, block in self.paths:
            longer = [other for other, _ in self.paths if len(other) > len(path) and other[:len(path)] == path]
            if not longer and self.holders(block) == 1:
                self.paths.remove((path, block))
                return True
        return False

    # The house.

    def ask(self, ask):
        self.requests.append(of_ask(ask))
        return len(self.requests) - 1

    def going(self):
        return tuple(ticket for ticket, request in enumerate(self.requests) if request.word is None)

    def step(self, plan):
        ended = []
        for ticket, many in plan:
            for _ in range(many):
                if self.requests[ticket].is_inside():
                    self.advance(self.requests[ticket])
                    if self.requests[ticket].word is not None:
                        ended.append(ticket)
        return tuple(ended)

    def take_known(self, request, most):
        there = request.length + self.size
        if request.length % self.size == 0 and most >= there:
            path = request.letters[:there]
            blocks = self.known(path)
            if path in dict(self.paths):
                request.blocks.append(blocks[-1])
                request.length = there
                return True
        return False

    def put_as_told(self, request, row):
        while not self.put_row(request, row):
            if not self.drop():
                return False
        if request.length % self.size == 0:
            path = request.letters[:request.length]
            request.blocks[-1] = self.tree_put(path, request.blocks[-1])
        return True

    def advance(self, request):
        if not self.take_known(request, len(request.letters)):
            if not self.put_as_told(request, self.row_of(request.letters[:request.length + 1])):
                return
            self.reckoned += 1
        if request.length == len(request.letters):
            self.write(request)

    def write(self, request):
        weights = self.row_at(request, request.length - 1)[1]
        choice = chosen(weights, request.text, request.tape, request.rule)
        if choice is None:
            request.word = "stuck"
        elif choice == self.parts[-1]:
            request.word = "end"
        else:
            request.text += (choice,)
            stops = [stop for stop in request.stops if request.text[-len(stop):] == stop]
            if stops:
                request.text = request.text[:-max(len(stop) for stop in stops)]
                request.word = "stop"
            elif len(request.text) == request.most:
                request.word = "most"
        if request.word is not None:
            request.give_back()

    def put_off(self, ticket):
        request = self.requests[ticket]
        had = request.is_inside() and request.length > 0
        if request.is_inside():
            request.give_back()
        return had

    def swap_out(self, ticket):
        request = self.requests[ticket]
        if not request.is_inside():
            return False
        request.aside = [self.row_at(request, place) for place in range(request.length)]
        request.give_back()
        return True

    def swap_in(self, ticket):
        request = self.requests[ticket]
        if request.aside is None:
            return False
        while request.length < len(request.aside):
            if not self.take_known(request, len(request.aside)):
                if not self.put_as_told(request, request.aside[request.length]):
                    request.give_back()
                    return False
        request.aside = None
        return True

    def is_out(self, ticket):
        return self.requests[ticket].aside is not None

    def fork(self, ticket, tape):
        old = self.requests[ticket]
        if not old.is_inside():
            return None
        new = SlowRequest(old.prompt, old.most, old.stops, tuple(tape), old.rule, old.text)
        new.blocks, new.length = list(old.blocks), old.length
        self.requests.append(new)
        return len(self.requests) - 1

    def cancel(self, ticket):
        request = self.requests[ticket]
        if request.word is not None:
            return False
        request.word, request.aside = "cancelled", None
        request.give_back()
        return True

    def guess(self, ticket, guesses):
        request = self.requests[ticket]
        letters, guesses = request.letters, tuple(guesses)
        if not request.is_inside() or request.length != len(letters) - 1:
            return 0
        rows = [self.row_of(letters + guesses[:many]) for many in range(len(guesses) + 1)]
        self.reckoned += len(rows)
        for made, row in enumerate(rows):
            if not self.put_as_told(request, row):
                return made
            self.write(request)
            if request.word is not None or request.text[-1:] != guesses[made:made + 1]:
                break
        return made + 1

    def sendable(self, ticket):
        request = self.requests[ticket]
        if request.word in ("end", "stop", "most", "stuck"):
            return request.text
        endings = [request.text[at:] for at in range(len(request.text))]
        begun = [end for end in endings for stop in request.stops if end == stop[:len(end)] and end != stop]
        return request.text[:len(request.text) - max([len(end) for end in begun], default=0)]

    def deliver(self, ticket):
        request = self.requests[ticket]
        new = self.sendable(ticket)[request.delivered:]
        request.delivered += len(new)
        return new

    def log(self):
        told = []
        for request in self.requests:
            text = request.text
            if request.word is None:
                text = text[:max(len(request.begun), request.delivered)]
            told.append((request.prompt, request.most, request.stops, request.tape, request.rule,
                         text, request.word, request.delivered))
        return tuple(told)

    def come_back(self):
        """The house that comes back from the log of this one."""
        house = SlowHouse(self.parts, self.many, self.size)
        for old, (*asked, text, word, delivered) in zip(self.requests, self.log()):
            request = SlowRequest(*asked, text)
            request.first, request.word, request.delivered = old.first, word, delivered
            house.requests.append(request)
        return house

    # Shelves and pictures.

    def write_paths(self):
        lines = ""
        for path, block in sorted(self.paths):
            rows = []
            for pairs, weights in self.filled[block]:
                numbers = [number for key, value in pairs for number in key + value]
                rows.append(" ".join(str(number) for number in numbers + list(weights)))
            lines += "%s:%s\n" % (" ".join(str(letter) for letter in path), ";".join(rows))
        return lines

    def warm(self, shelf):
        many = 0
        while "\n" in shelf:
            line, _, shelf = shelf.partition("\n")
            path = tuple(int(letter) for letter in line.partition(":")[0].split())
            begun = path[:len(path) - self.size]
            if path in dict(self.paths) or (begun and begun not in dict(self.paths)):
                continue
            block = self.take()
            if block is not None:
                ends = range(len(begun) + 1, len(path) + 1)
                self.filled[block] = [self.row_of(path[:end]) for end in ends]
                self.tree_put(path, block)
                many += 1
        return many

    def by_last_use(self):
        """The pairs of the tree, one after the other, that nothing goes on from and that were used longest ago."""
        left, found = list(self.paths), []
        while left:
            for path, block in left:
                if not [other for other, _ in left if len(other) > len(path) and other[:len(path)] == path]:
                    found.append((path, block))
                    left.remove((path, block))
                    break
        return tuple(found)

    def picture(self):
        requests = []
        for request in self.requests:
            rule = (None, None) if request.rule is None else (request.rule.start, request.rule.steps)
            aside = None if request.aside is None else tuple(request.aside)
            requests.append((
                request.prompt, request.most, request.stops, request.tape, *rule, request.text, len(request.begun),
                request.word, tuple(request.blocks), request.length, aside, request.delivered,
            ))
        held = tuple(self.holders(block) for block in range(self.many))
        return self.all_rows(), held, tuple(requests), self.by_last_use()

    # Planning.

    def needed(self, ticket):
        rows = len(self.requests[ticket].prompt) + self.requests[ticket].most - 1
        return rows // self.size + (1 if rows % self.size else 0)

    def turn(self):
        ended = ()
        for ticket in self.going():
            if self.is_out(ticket):
                self.swap_in(ticket)
            ended += self.step([(ticket, 1)])
        return ended

    def serve(self):
        turns = 0
        while self.going():
            first = self.requests[self.going()[0]]
            before = first.text, first.length, first.word
            self.turn()
            turns += 1
            if before == (first.text, first.length, first.word):
                alone = self.requests.index(first)
                for ticket in self.going():
                    if ticket != alone:
                        self.put_off(ticket)
                self.swap_in(alone)
                while first.word is None:
                    self.step([(alone, 1)])
        return turns

    # What the tests compare.

    def seen(self):
        """The same as helpers.seen of a house."""
        requests = tuple((
            request.text, request.word, tuple(request.blocks), request.length, request.aside is not None,
            request.delivered, self.sendable(ticket),
        ) for ticket, request in enumerate(self.requests))
        held = tuple(self.holders(block) for block in range(self.many))
        paths = tuple(sorted(path for path, _ in self.paths))
        return requests, self.going(), self.reckoned, held, paths

    def all_rows(self):
        return tuple(self.rows(block) for block in range(self.many))

    def dropped(self):
        """The same as helpers.dropped of a house."""
        house = SlowHouse(self.parts, self.many, self.size)
        house.requests, house.paths = copy.deepcopy(self.requests), list(self.paths)
        gone = []
        for _ in range(2):
            before = dict(house.paths)
            while house.drop():
                gone.extend(path for path in before if path not in dict(house.paths))
                before = dict(house.paths)
            gone.append("cancelled")
            for ticket in house.going():
                house.cancel(ticket)
        return gone


class SlowFleet:
    def __init__(self, parts, shapes):
        self.houses = [SlowHouse(parts, many, size) for many, size in shapes]
        self.places = []

    def ask(self, ask):
        ranks = []
        for number, house in enumerate(self.houses):
            begun = [len(path) for path, _ in house.paths if ask.prompt[:len(path)] == path]
            ranks.append((max(begun, default=0), -len(house.going()), -number))
        number = -max(ranks)[2]
        self.places.append((number, self.houses[number].ask(ask)))
        return len(self.places) - 1

    def move(self, ticket, to):
        number, there = self.places[ticket]
        old, house = self.houses[number].requests[there], self.houses[to]
        if number == to or old.word is not None:
            return False
        new = SlowRequest(old.prompt, old.most, old.stops, old.tape, old.rule, old.text)
        new.delivered = old.delivered
        rows = [self.houses[number].row_at(old, place) for place in range(old.length)]
        new.aside = rows if old.aside is None else old.aside
        house.requests.append(new)
        self.places[ticket] = to, len(house.requests) - 1
        house.swap_in(len(house.requests) - 1)
        self.houses[number].cancel(there)
        old.delivered = len(old.text)
        return True

    def fall(self, number):
        self.houses[number] = self.houses[number].come_back()

    def deliver(self, ticket):
        number, there = self.places[ticket]
        return self.houses[number].deliver(there)
