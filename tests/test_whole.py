"""The whole program: whatever is done in whatever order, each asker is sent what the net alone writes.

What a request has to have is reckoned from nothing at each letter. Calls of all modules are drawn one after the other.
"""

import random

from servedalone.asks import Ask
from servedalone.audits import blocks_together, distinct, faults, holders
from servedalone.batches import rows_in_batch
from servedalone.beams import beams_in, plain_beams
from servedalone.chances import next_shares, round_shares, text_share, told_shares
from servedalone.crews import Crew
from servedalone.deadlines import deadline_plan
from servedalone.deeds import do, picture, redo
from servedalone.errors import NoRoom
from servedalone.fairness import Fair
from servedalone.fleets import Fleet
from servedalone.forests import guess_best
from servedalone.guesses import lesser_guesses
from servedalone.houses import House
from servedalone.journals import read_deeds, write_deeds
from servedalone.nets import Net
from servedalone.plain import rows_of, weights_behind, written
from servedalone.planners import needed, serve, turn
from servedalone.shares import Share
from servedalone.shelves import warm, write_paths
from servedalone.snapshots import restore, snapshot
from servedalone.streams import held_back
from servedalone.wires import Receiver, packets
from tests.helpers import Case, chosen, parts_of_net, reckoned_rows
from tests.pairs import some_parts, some_prompt, some_served


def all_texts(parts, ask, begun):
    """The texts and words of an ask, one behind the other, each letter reckoned from nothing."""
    text, found = tuple(begun), [(tuple(begun), None)]
    while found[-1][1] is None:
        weights = reckoned_rows(parts, ask.prompt + text)[-1][1]
        letter = chosen(weights, text, ask.tape, ask.rule)
        if letter is None:
            found.append((text, "stuck"))
        elif letter == parts[-1]:
            found.append((text, "end"))
        else:
            text += (letter,)
            stops = [len(stop) for stop in ask.stops if text[-len(stop):] == stop]
            if stops:
                found.append((text[:len(text) - max(stops)], "stop"))
            else:
                found.append((text, "most" if len(text) == ask.most else None))
    return found


class World:
    """A fleet and its askers, to which all kinds of things are done."""

    CALLS = (
        ["ask"] * 6 + ["step"] * 10 + ["guess", "forest", "fork", "swap", "come_in", "deliver", "send"] * 3
        + ["fair", "deadlines", "lesser", "put_off", "cancel", "move", "fall", "turn", "serve", "shelf", "beams"]
        + ["tree", "saved", "rows", "shares", "raised"]
    )

    def __init__(self, case, seed):
        self.case, self.source = case, random.Random(seed)
        self.parts = some_parts(self.source)
        self.letters = len(self.parts[1])
        self.net = Net(*self.parts)
        self.lesser = Net(*parts_of_net(self.source, letters=self.letters, width=1, layers=1, end=self.parts[-1]))
        self.size = self.source.randint(1, 4)
        shapes = [(self.source.choice([3, 8, 20, 60]), self.size) for _ in range(self.source.randint(1, 4))]
        self.fleet = Fleet(self.net, shapes)
        self.houses = range(len(shapes))
        self.fair = Fair([self.source.randint(1, 9) for _ in range(12)])
        # All texts that each request may have, by its house and its ticket there; then by the fleet's tickets.
        self.texts, self.asked = {}, []
        self.sent, self.receivers, self.whole = [], [], 0

    def some_house(self):
        number = self.source.choice(self.houses)
        return number, self.fleet.house(number)

    def some_request(self):
        """A house and a request there, mostly a going one."""
        number, ticket = self.source.choice(sorted(self.texts))
        house = self.fleet.house(number)
        if house.going() and self.source.random() < 0.8:
            ticket = self.source.choice(house.going())
        return number, house, ticket

    def deed(self, house, *deed):
        """Does the deed as it is read from a journal."""
        read, = read_deeds(write_deeds([deed]) + write_deeds([deed])[:-1])
        return do(house, read)

    # Askers.

    def ask(self):
        if len(self.texts) < 25:
            ask = some_served(self.source, self.letters, 5, 10)
            ticket = self.fleet.ask(ask)
            self.case.assert_same(ticket, len(self.asked))
            self.asked.append(ask)
            self.texts[self.fleet.place(ticket)] = all_texts(self.parts, ask, ())
            self.case.assert_same(written(self.net, ask), self.texts[self.fleet.place(ticket)][-1])
            self.sent.append(())
            self.receivers.append(Receiver())

    def deliver(self):
        for ticket in range(len(self.asked)):
            if self.source.random() < 0.3:
                self.sent[ticket] += self.fleet.deliver(ticket)

    def send(self):
        for ticket in range(len(self.asked)):
            number, there = self.fleet.place(ticket)
            found = packets(self.fleet.house(number), there, self.source.randint(1, 8))
            for packet in self.source.sample(found, self.source.randint(0, len(found))):
                self.receivers[ticket].take(packet)

    def move(self):
        ticket = self.source.randrange(len(self.asked))
        before, to = self.fleet.place(ticket), self.source.choice(self.houses)
        if self.fleet.move(ticket, to):
            self.texts[self.fleet.place(ticket)] = self.texts[before]

    def fall(self):
        self.fleet.fall(self.source.choice(self.houses))

    # Requests.

    def step(self):
        _, house = self.some_house()
        plan = [(ticket, self.source.choice([1, 1, 2, 5, 20])) for ticket in house.going()]
        self.deed(house, "step", self.source.sample(plan, self.source.randint(0, len(plan))))

    def raised(self):
        """Deeds that raise an error change nothing."""
        _, house, ticket = self.some_request()
        before = picture(house)
        for deed in (("step", ((ticket, 1), (ticket, 61))), ("deliver", 99), ("guess", ticket, (0, self.letters))):
            with self.case.assertRaises(ValueError):
                self.deed(house, *deed)
        self.case.assertEqual(picture(house), before)

    def fork(self):
        number, house, ticket = self.some_request()
        text = house.text(ticket)
        if len(self.texts) < 25 and len(house.log()) < 30:
            tape = [self.source.randrange(1000) for _ in range(3)]
            other = self.deed(house, "fork", ticket, tape)
            if other is not None:
                prompt, most, stops, _, rule, *_ = house.log()[ticket]
                ask = Ask(prompt, most, stops=stops, tape=tape, rule=rule)
                self.texts[number, other] = all_texts(self.parts, ask, text)

    def guess(self):
        number, house, ticket = self.some_request()
        self.deed(house, "step", ((ticket, self.source.choice([0, 1, 5])),))
        right = self.texts[number, ticket][-1][0][len(house.text(ticket)):][:7]
        self.deed(house, "guess", ticket, right + (self.source.randrange(self.letters),))

    def forest(self):
        number, house, ticket = self.some_request()
        self.deed(house, "step", ((ticket, self.source.choice([0, 1, 5])),))
        right = self.texts[number, ticket][-1][0][len(house.text(ticket)):]
        rows = [right[:many] + (self.source.randrange(self.letters),) for many in range(5)]
        many = len(house.text(ticket))
        made = guess_best(house, ticket, self.source.sample(rows, self.source.randint(0, 5)))
        if house.word(ticket) is None:
            self.case.assert_same(len(house.text(ticket)), many + made)

    def lesser_one(self):
        _, house, ticket = self.some_request()
        guesses = lesser_guesses(house, ticket, self.lesser, self.source.randint(1, 8))
        self.deed(house, "guess", ticket, guesses)

    def swap(self):
        _, house, ticket = self.some_request()
        self.deed(house, "swap_out", ticket)

    def come_in(self):
        _, house, ticket = self.some_request()
        self.deed(house, "swap_in", ticket)

    def put_off(self):
        _, house, ticket = self.some_request()
        self.deed(house, "put_off", ticket)

    def cancel(self):
        number, house, ticket = self.some_request()
        if self.source.random() < 0.5:
            self.deed(house, "cancel", ticket)

    # Plans.

    def fair_plan(self):
        _, house = self.some_house()
        members = [ticket for ticket in house.going() if ticket < 12]
        if members:
            house.step(self.fair.plan(members, self.source.randint(0, 9)))

    def deadlines(self):
        _, house = self.some_house()
        needs = [(ticket, self.source.randint(1, 4), self.source.randint(1, 30)) for ticket in house.going()]
        plan, _ = deadline_plan(needs)
        house.step(plan or ())

    def turn(self):
        turn(self.some_house()[1])

    def serve(self):
        _, house = self.some_house()
        if all(needed(house, ticket) <= house.store.many for ticket in house.going()):
            serve(house)
            self.case.assert_same(house.going(), ())

    # Memory.

    def shelf(self):
        shelf = write_paths(self.some_house()[1])
        _, house = self.some_house()
        reckoned = house.reckoned
        warm(house, shelf[:self.source.randint(0, len(shelf))])
        self.case.assert_same(house.reckoned, reckoned)

    def tree(self):
        _, house = self.some_house()
        house.tree.known(some_prompt(self.source, self.letters))
        house.tree.drop()

    def beams(self):
        _, house = self.some_house()
        prompt = some_prompt(self.source, self.letters, 4)
        wide, before = self.source.randint(1, 2), picture(house)
        try:
            self.case.assertTrue(beams_in(house, prompt, wide, 3) == plain_beams(self.net, prompt, wide, 3))
        except NoRoom as error:
            self.case.assertGreater(error.many, house.store.free)
        self.case.assertEqual(picture(house), before)

    def saved(self):
        """A house that was saved goes on by itself, and each of its requests gets its text."""
        number, house = self.some_house()
        other = restore(self.net, snapshot(house))
        self.case.assertEqual((picture(other), other.log()), (picture(house), house.log()))
        if all(needed(other, ticket) <= other.store.many for ticket in other.going()):
            going = other.going()
            serve(other)
            for ticket in going:
                self.case.assert_same((other.text(ticket), other.word(ticket)), self.texts[number, ticket][-1])
        self.case.assertEqual(picture(restore(self.net, snapshot(house))), picture(house))

    # Rows and shares.

    def rows(self):
        """Batches and crews reckon what the blocks have."""
        _, house, ticket = self.some_request()
        prompt, *_ = house.log()[ticket]
        letters = prompt + house.text(ticket)
        wanted = rows_of(self.net, letters)
        cut = self.source.randint(0, len(letters))
        jobs = ((wanted[:cut], letters[cut:]), ((), letters[:cut]))
        self.case.assert_same(rows_in_batch(self.net, jobs), (wanted[cut:], wanted[:cut]))
        crew = Crew(self.net, self.source.randint(1, self.net.width))
        crew.begin(wanted[:-1], letters[-1])
        while crew.row() is None:
            self.source.choice([crew.deliver, crew.deliver, crew.lose])(self.source.randrange(len(crew.waiting())))
        self.case.assert_same(crew.row(), wanted[-1])
        self.case.assert_same(crew.row()[1], weights_behind(self.net, letters))
        found = [row for block in house.blocks_of(ticket) for row in house.store.rows(block)]
        self.case.assert_same(tuple(found[:house.length_of(ticket)]), wanted[:house.length_of(ticket)])

    def shares(self):
        ask, ticket = self.source.choice(list(zip(self.asked, range(len(self.asked)))))
        text = self.fleet.text(ticket)
        if ask.rule is None:
            product = Share(1, 1)
            for share in told_shares(self.net, ask, text):
                product = product * share
            self.case.assertTrue(product == text_share(self.net, ask.prompt, text))
        whole = Share(0, 1)
        for _, share in round_shares(self.net, self.lesser, ask.prompt[-2:], 1):
            whole = whole + share
        for share in next_shares(self.net, ask.prompt):
            whole = whole + share
        self.case.assertTrue(whole == Share(2, 1))

    # What holds at every moment.

    def one_call(self):
        names = {"lesser": "lesser_one", "fair": "fair_plan"}
        name = self.source.choice(self.CALLS) if self.asked else "ask"
        getattr(self, names.get(name, name))()
        self.check()

    def check(self):
        for (number, ticket), texts in self.texts.items():
            self.check_request(self.fleet.house(number), ticket, texts)
        for ticket in range(len(self.asked)):
            text, word = self.texts[self.fleet.place(ticket)][-1]
            self.case.assert_same(self.sent[ticket], text[:len(self.sent[ticket])])
            found = self.receivers[ticket].text()
            self.case.assert_same(found, text[:len(found)])
            if self.receivers[ticket].is_whole():
                self.case.assert_same(found, text)
                self.whole += 1
        for number in self.houses:
            house = self.fleet.house(number)
            held = tuple(house.store.holders(block) for block in range(house.store.many))
            self.case.assert_same(holders(house), held)
            if self.source.random() < 0.1:
                self.case.assert_same(faults(house), ())

    def check_request(self, house, ticket, texts):
        text, word = house.text(ticket), house.word(ticket)
        whole, _ = texts[-1]
        if word == "cancelled":
            self.case.assertIn((text, None), texts)
        else:
            self.case.assertIn((text, word), texts)
        sendable = house.sendable(ticket)
        self.case.assert_same(sendable, whole[:len(sendable)])
        _, _, stops, *_ = house.log()[ticket]
        if word in (None, "cancelled"):
            self.case.assert_same(len(text) - len(sendable), held_back(stops, text))
        if ticket in house.going() and not house.is_out(ticket):
            self.case.assertLess(house.length_of(ticket), len(house.log()[ticket][0] + text))

    def end(self):
        """All that are still there are served, in a house with room enough; whole texts come."""
        for ticket in range(len(self.asked)):
            number, there = self.fleet.place(ticket)
            house = House.come_back(self.net, 60, 8, self.fleet.house(number).log())
            serve(house)
            self.sent[ticket] += house.deliver(there)
            for packet in packets(house, there, self.source.randint(1, 8)):
                self.receivers[ticket].take(packet)
            if house.word(there) != "cancelled":
                self.case.assert_same((self.sent[ticket], house.word(there)), self.texts[number, there][-1])
                self.case.assert_same(self.receivers[ticket].is_whole(), True)
        self.check()


class Whole(Case):
    def test_calls_of_all_modules(self):
        done, whole = {}, 0
        for seed in range(80):
            world = World(self, seed)
            for _ in range(60):
                world.one_call()
            whole += world.whole
            world.end()
            for number, ticket in world.texts:
                done[world.fleet.house(number).word(ticket)] = True
        self.assertEqual(set(done), {None, "end", "stop", "most", "stuck", "cancelled"})
        self.assertGreater(whole, 100)

    def test_a_house_that_is_saved_written_down_and_done_again(self):
        for seed in range(40):
            source = random.Random(seed)
            parts = some_parts(source)
            net, letters = Net(*parts), len(parts[1])
            house, deeds, wanted = House(net, 40, 2), [], []
            for _ in range(40):
                tickets = range(len(wanted)) or range(1)
                deed = source.choice([
                    ("step", [[source.choice(tickets), source.randint(0, 9)] for _ in range(3)]),
                    ("step", [[source.choice(tickets), 1] for _ in range(9)]), ("swap_out", source.choice(tickets)),
                    ("swap_in", source.choice(tickets)), ("deliver", source.choice(tickets)),
                    ("put_off", source.choice(tickets)), ("guess", source.choice(tickets), (0, 0)), ("ask", None),
                ])
                if deed[0] == "ask" and len(wanted) < 20:
                    ask = some_served(source, letters, 5, 10)
                    # Journals have no rules.
                    ask = Ask(ask.prompt, ask.most, stops=ask.stops, tape=ask.tape)
                    deed = ("ask", ask)
                    wanted.append(all_texts(parts, ask, ()))
                elif deed[0] == "ask":
                    continue
                deeds.append(deed)
                house = source.choice([
                    lambda: restore(net, snapshot(house)), lambda: redo(net, 40, 2, read_deeds(write_deeds(deeds[:-1]))),
                    lambda: house,
                ])()
                try:
                    do(house, deed)
                except ValueError:
                    self.assertEqual(wanted, [])
                for ticket, texts in enumerate(wanted):
                    self.assertIn((house.text(ticket), house.word(ticket)), texts)
            serve(restore(net, snapshot(house)))
            serve(house)
            for ticket, texts in enumerate(wanted):
                self.assert_same((house.text(ticket), house.word(ticket)), texts[-1])

    def test_rows_and_blocks_are_reckoned_and_kept_once(self):
        for seed in range(60):
            source = random.Random(seed)
            parts = some_parts(source)
            net, size = Net(*parts), source.randint(1, 4)
            house = House(net, 60, 1)
            shared = House(net, 60, size)
            read = {}
            for ticket in range(source.randint(1, 3)):
                ask = some_served(source, len(parts[1]), 5, 9)
                house.ask(ask)
                shared.ask(ask)
            for _ in range(12):
                ticket = source.randrange(len(house.log()))
                if house.word(ticket) is None:
                    letters = house.log()[ticket][0] + house.text(ticket)
                    house.step(((ticket, 1),))
                    read[ticket, len(letters)] = letters[:house.length_of(ticket) or len(letters)]
                    self.assert_same(house.reckoned, distinct(list(read.values())))
                shared.step(((ticket, 1),))
                if len(shared.going()) < len(shared.log()):
                    continue
                rows = [(shared.log()[one][0] + shared.text(one))[:shared.length_of(one)] for one in shared.going()]
                self.assert_same(60 - shared.store.free, blocks_together(rows, size))
