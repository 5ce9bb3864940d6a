"""[19]: fleets."""

import random

from servedalone.asks import Ask
from servedalone.errors import InvalidLetter, NoHouse, NoRequest
from servedalone.fleets import Fleet
from servedalone.houses import House
from servedalone.nets import Net
from servedalone.rules import Rule
from tests.helpers import (
    COUNTING, Case, all_rows, alone, as_lists, dropped, parts_of_net, seen, spoil, whole_state, wrong_numbers,
)
from tests.pairs import right_guesses, some_parts, some_served
from tests.slow import SlowFleet

ROUND = COUNTING[:5] + (None,)


def state_of_fleet(fleet, shapes):
    return [whole_state(fleet.house(number)) for number in range(len(shapes))]


def fleet_of(parts, *shapes):
    return Fleet(Net(*parts), shapes)


class NewFleet(Case):
    def test_houses_of_these_shapes(self):
        net = Net(*ROUND)
        shapes = [[3, 1], (60, 8), [1, 1], (2, 5)]
        fleet = self.assert_keeps(Fleet, net, shapes)
        spoil(shapes)
        for number, (many, size) in enumerate(((3, 1), (60, 8), (1, 1), (2, 5))):
            house = fleet.house(number)
            self.assertIs(type(house), House)
            self.assertIs(house.net, net)
            self.assert_same((house.store.many, house.store.size, house.store.free), (many, size, many))
            self.assertIs(fleet.house(house=number), house)
        self.assert_same(Fleet(shapes=((2, 2),), net=net).house(0).store.size, 2)

    def test_what_is_no_house(self):
        for many in (1, 3):
            fleet = fleet_of(ROUND, *[(3, 1)] * many)
            fleet.ask(Ask((1,), 9))
            before = state_of_fleet(fleet, [0] * many)
            for number in wrong_numbers(0, many - 1):
                self.assert_fails(NoHouse, {"house": number}, fleet.house, number)
                self.assert_fails(NoHouse, {"house": number}, fleet.fall, number)
                self.assert_fails(NoHouse, {"house": number}, fleet.move, 0, number)
            self.assertEqual(state_of_fleet(fleet, [0] * many), before)

    def test_what_is_no_ticket(self):
        for number in wrong_numbers(0, 2):
            fleet = fleet_of(ROUND, (3, 1), (3, 2))
            for _ in range(3):
                fleet.ask(Ask((1,), 9))
            fleet.house(0).step(((0, 1),))
            before = state_of_fleet(fleet, [0, 0])
            for call in (fleet.place, fleet.deliver, fleet.word, fleet.text):
                self.assert_fails(NoRequest, {"ticket": number}, call, number)
            self.assert_fails(NoRequest, {"ticket": number}, fleet.move, number, 1)
            self.assert_fails(NoRequest, {"ticket": number}, fleet.move, number, 2)
            self.assertEqual(state_of_fleet(fleet, [0, 0]), before)
            self.assert_same(fleet.ask(Ask((1,), 9)), 3)

    def test_tickets_of_houses_are_none_of_the_fleet(self):
        fleet = fleet_of(ROUND, (9, 1))
        self.assert_same(fleet.house(0).ask(Ask((1,), 9)), 0)
        self.assert_fails(NoRequest, {"ticket": 0}, fleet.place, 0)
        self.assert_same((fleet.ask(Ask((2,), 9)), fleet.place(0)), (0, (0, 1)))


class Asking(Case):
    def test_the_fewest_going_then_the_lowest(self):
        fleet = fleet_of(ROUND, (9, 1), (9, 2), (9, 3))
        self.assert_same([fleet.ask(Ask((1,), 9)) for _ in range(7)], list(range(7)))
        places = [fleet.place(ticket) for ticket in range(7)]
        self.assert_same(places, [(0, 0), (1, 0), (2, 0), (0, 1), (1, 1), (2, 1), (0, 2)])
        fleet.house(1).cancel(0)
        fleet.house(2).cancel(0)
        fleet.house(2).cancel(1)
        self.assert_same([fleet.place(fleet.ask(ask=Ask((1,), 9))) for _ in range(3)], [(2, 2), (1, 2), (2, 3)])
        self.assert_same(fleet.place(ticket=9), (2, 3))

    def test_those_that_are_out_are_going(self):
        fleet = fleet_of(ROUND, (9, 1), (9, 1))
        fleet.ask(Ask((1,), 9))
        fleet.house(0).swap_out(0)
        self.assert_same(fleet.place(fleet.ask(Ask((1,), 9))), (1, 0))

    def test_the_longest_path(self):
        fleet = fleet_of(ROUND, (9, 1), (9, 2), (9, 3))
        for number, prompt in enumerate(((0, 1, 2), (0, 1, 2, 3), (0, 1, 2))):
            fleet.house(number).ask(Ask(prompt, 1))
            fleet.house(number).ask(Ask((3,), 9))
            fleet.house(number).step(((0, 60),))
        fleet.house(1).ask(Ask((3,), 9))
        # Going are one request in house 0, two in house 1, and one in house 2.
        for prompt, number in (
            ((0, 1, 2, 3), 1), ((0, 1, 2, 3, 3, 3, 3), 1), ((0, 1, 2), 0), ((0, 1, 2, 0), 0), ((0, 1), 0),
            ((0, 1, 1), 0), ((1, 0, 1), 0), ((0, 3, 2), 0),
        ):
            self.assert_goes_to(fleet, prompt, number)
        for _ in range(2):
            fleet.house(0).ask(Ask((3,), 9))
        # Now three are going in house 0.
        for prompt, number in (((0, 1, 2), 2), ((0, 1), 1), ((0, 1, 1), 1), ((0,), 0), ((0, 3, 2), 0), ((1, 0, 1), 2)):
            self.assert_goes_to(fleet, prompt, number)

    def assert_goes_to(self, fleet, prompt, number):
        ticket = fleet.ask(Ask(prompt, 9))
        self.assert_same((prompt, fleet.place(ticket)[0]), (prompt, number))
        fleet.house(number).cancel(fleet.place(ticket)[1])

    def test_a_path_longer_than_the_prompt_is_none(self):
        fleet = fleet_of(ROUND, (9, 1), (9, 4))
        fleet.house(1).ask(Ask((0, 1, 2, 3), 1))
        fleet.house(1).step(((0, 60),))
        self.assert_same(list(fleet.house(1).tree), [(0, 1, 2, 3)])
        self.assert_same(fleet.place(fleet.ask(Ask((0, 1, 2), 9))), (0, 0))
        self.assert_same(fleet.place(fleet.ask(Ask((0, 1, 2, 3), 9))), (1, 1))

    def test_it_is_no_use(self):
        fleet = fleet_of(ROUND, (9, 1), (9, 1))
        for letter in (1, 2, 3):
            fleet.house(0).ask(Ask((letter,), 1))
            fleet.house(0).step(((letter - 1, 1),))
        before = dropped(fleet.house(0))
        fleet.ask(Ask((1, 2), 9))
        self.assert_same((fleet.place(0), dropped(fleet.house(0))), ((0, 3), before))
        self.assert_same(before[:3], [(1,), (2,), (3,)])

    def test_wrong_letters(self):
        fleet = fleet_of(ROUND, (9, 1), (9, 1))
        fleet.ask(Ask((1,), 9))
        before = state_of_fleet(fleet, [0, 0])
        for letter in wrong_numbers(0, 3):
            for ask in (Ask((1, letter), 9), Ask((letter, 9), 9), Ask((1,), 9, stops=((1,), (letter, 7)))):
                self.assert_fails(InvalidLetter, {"letter": letter}, fleet.ask, ask)
        self.assertEqual(state_of_fleet(fleet, [0, 0]), before)
        self.assert_same((fleet.ask(Ask((1,), 9)), fleet.place(1)), (1, (1, 0)))


class Moves(Case):
    def made(self, *shapes, ask=None, many=5):
        """A fleet with one request in its first house, which advanced so often there."""
        fleet = fleet_of(self.parts, *shapes)
        fleet.ask(ask or Ask((1, 2, 0), 9, stops=((1, 0, 0, 2),), tape=(3, 9, 4), rule=Rule(0, ((0,) * 4,))))
        fleet.house(0).step(((0, many),))
        return fleet

    parts = parts_of_net(random.Random(3), letters=4, width=2, layers=1)

    def test_a_request_with_rows(self):
        fleet = self.made((9, 2), (9, 3))
        old, new = fleet.house(0), fleet.house(1)
        self.assert_same(len(fleet.deliver(0)), len(old.sendable(0)))
        old.step(((0, 1),))
        text, delivered, told = old.text(0), old.delivered(0), old.log()[0]
        self.assert_same((fleet.move(to=1, ticket=0), fleet.place(0)), (True, (1, 0)))
        self.assertIs(fleet.house(0), old)
        found = old.text(0), old.word(0), old.delivered(0), old.blocks_of(0)
        self.assert_same(found, (text, "cancelled", len(text), ()))
        self.assert_same((old.deliver(0), old.going(), old.reckoned), ((), (), 6))
        self.assert_same((new.text(0), new.word(0), new.delivered(0), new.is_out(0)), (text, None, delivered, False))
        self.assert_same((new.blocks_of(0), new.length_of(0), new.reckoned), ((0, 1), 6, 0))
        self.assert_same(new.log()[0], told[:5] + (text, None, delivered))
        self.assertIs(new.log()[0][4], told[4])
        letters = (1, 2, 0) + text
        self.assert_same(list(new.tree), [letters[:3], letters[:6]])
        new.step(((0, 60),))
        wanted = alone(self.parts, Ask(*told[:2], stops=told[2], tape=told[3]))
        self.assert_same((fleet.text(ticket=0), fleet.word(ticket=0)), wanted)
        self.assert_same((fleet.deliver(ticket=0), fleet.deliver(0)), (fleet.text(0)[delivered:], ()))

    def test_blocks_are_taken_over_there(self):
        fleet = self.made((9, 2), (9, 2))
        fleet.house(1).ask(Ask((1, 2, 0), 1))
        fleet.house(1).step(((0, 60),))
        self.assert_same(list(fleet.house(1).tree), [(1, 2)])
        fleet.move(0, 1)
        self.assert_same((fleet.house(1).blocks_of(1), fleet.house(1).store.holders(0)), ((0, 1, 2), 2))

    def test_no_room(self):
        fleet = self.made((9, 2), (2, 2))
        text = fleet.text(0)
        self.assert_same((fleet.move(0, 1), fleet.place(0)), (True, (1, 0)))
        house = fleet.house(1)
        self.assert_same((house.is_out(0), house.text(0), house.length_of(0), house.going()), (True, text, 0, (0,)))
        self.assert_same((fleet.house(0).word(0), len(house.tree)), ("cancelled", 2))
        self.assert_same((fleet.move(0, 0), fleet.place(0)), (True, (0, 1)))
        house = fleet.house(0)
        self.assert_same((house.is_out(1), house.length_of(1), house.reckoned), (False, 5, 5))

    def test_one_that_is_out(self):
        fleet = self.made((9, 2), (9, 1))
        fleet.house(0).swap_out(0)
        self.assert_same(fleet.move(0, 1), True)
        old, new = fleet.house(0), fleet.house(1)
        self.assert_same((old.is_out(0), old.word(0), old.swap_in(0)), (False, "cancelled", False))
        self.assert_same((new.is_out(0), new.length_of(0), new.reckoned), (False, 5, 0))

    def test_one_with_no_rows(self):
        for name in ("step", "swap_out"):
            fleet = self.made((9, 2), (1, 1), many=0)
            if name == "swap_out":
                fleet.house(0).swap_out(0)
            fleet.house(1).ask(Ask((3,), 9))
            fleet.house(1).step(((0, 9),))
            self.assert_same((fleet.house(1).store.free, fleet.move(0, 1)), (0, True))
            house = fleet.house(1)
            self.assert_same((fleet.place(0), house.is_out(1), house.length_of(1)), ((1, 1), False, 0))

    def test_one_that_was_put_off(self):
        fleet = self.made((9, 2), (9, 2))
        text = fleet.text(0)
        fleet.house(0).put_off(0)
        self.assert_same((fleet.move(0, 1), fleet.text(0), fleet.house(1).length_of(0)), (True, text, 0))

    def test_the_same_house(self):
        fleet = self.made((9, 2), (9, 2))
        before = state_of_fleet(fleet, [0, 0])
        self.assert_same((fleet.move(0, 0), fleet.place(0)), (False, (0, 0)))
        self.assertEqual(state_of_fleet(fleet, [0, 0]), before)

    def test_one_with_a_word(self):
        for many in (60, 3):
            fleet = self.made((9, 2), (9, 2), many=many)
            fleet.house(0).cancel(0)
            before = state_of_fleet(fleet, [0, 0])
            self.assert_same((fleet.move(0, 1), fleet.move(0, 0), fleet.place(0)), (False, False, (0, 0)))
            self.assertEqual(state_of_fleet(fleet, [0, 0]), before)

    def test_errors_in_their_order(self):
        fleet = self.made((9, 2), (9, 2), many=60)
        before = state_of_fleet(fleet, [0, 0])
        self.assert_fails(NoRequest, {"ticket": 1}, fleet.move, 1, 2)
        self.assert_fails(NoHouse, {"house": 2}, fleet.move, 0, 2)
        self.assertEqual(state_of_fleet(fleet, [0, 0]), before)

    def test_it_begins_there_with_its_text(self):
        fleet = self.made((9, 2), (9, 2))
        text = fleet.text(0)
        fleet.move(0, 1)
        fleet.house(1).step(((0, 2),))
        self.assert_same(fleet.house(1).log()[0][5], text)
        fleet.fall(1)
        self.assert_same((fleet.text(0), fleet.word(0)), (text, None))

    def test_all_of_the_text_counts_as_delivered_where_it_was(self):
        fleet = self.made((9, 2), (9, 2), ask=Ask((1, 2, 0), 9))
        fleet.move(0, 1)
        old = fleet.house(0)
        self.assert_same((len(old.text(0)), old.delivered(0), old.deliver(0)), (3, 3, ()))
        self.assert_same(fleet.deliver(0), old.text(0))
        fleet.fall(0)
        self.assert_same((fleet.house(0).delivered(0), fleet.house(0).deliver(0)), (3, ()))


class Falls(Case):
    def test_the_house_comes_back_from_its_log(self):
        fleet = fleet_of(ROUND, (9, 2), (7, 3))
        for _ in range(4):
            fleet.ask(Ask((0, 1), 9))
        fleet.house(1).step(((0, 4), (1, 60)))
        fleet.deliver(1)
        old = fleet.house(1)
        told, other = old.log(), fleet.house(0)
        self.assertIs(fleet.fall(house=1), None)
        new = fleet.house(1)
        self.assertIsNot(new, old)
        self.assertIs(fleet.house(0), other)
        self.assertIs(new.net, old.net)
        self.assert_same((new.store.many, new.store.size, new.log(), new.reckoned, len(new.tree)), (7, 3, told, 0, 0))
        self.assert_same([fleet.place(ticket) for ticket in range(4)], [(0, 0), (1, 0), (0, 1), (1, 1)])
        self.assert_same((fleet.text(1), fleet.word(1)), ((2, 3, 0), None))
        self.assert_same((fleet.text(3), fleet.word(3)), ((2, 3, 0, 1, 2, 3, 0, 1, 2), "most"))
        self.assert_same((fleet.deliver(1), fleet.deliver(3)), ((), fleet.text(3)))
        fleet.fall(1)
        self.assertIsNot(fleet.house(1), new)


class AnyMovesAndFalls(Case):
    def test_against_a_slow_fleet(self):
        for seed in range(60):
            source = random.Random(seed)
            parts = some_parts(source)
            shapes = [
                (source.choice([1, 3, 8, 20]), source.randint(1, 4)) for _ in range(source.randint(1, 4))
            ]
            fleet, slow = Fleet(Net(*parts), source.choice([shapes, as_lists(shapes)])), SlowFleet(parts, shapes)
            for _ in range(80):
                self.one_call(source, parts, fleet, slow)
                for ticket, (number, there) in enumerate(slow.places):
                    request = slow.houses[number].requests[there]
                    found = fleet.place(ticket), fleet.text(ticket), fleet.word(ticket)
                    self.assert_same(found, ((number, there), request.text, request.word))
                for number, house in enumerate(slow.houses):
                    self.assertEqual(seen(fleet.house(number)), house.seen())
            for number, house in enumerate(slow.houses):
                self.assertEqual(all_rows(fleet.house(number)), house.all_rows())
                self.assertEqual(dropped(fleet.house(number)), house.dropped())

    def one_call(self, source, parts, fleet, slow):
        others = ["deliver", "fall", "swap_out", "put_off", "guess"]
        name = source.choice(["ask"] * 2 + ["move"] * 3 + ["step"] * 8 + others)
        letters = len(parts[1])
        if not slow.places or (name == "ask" and len(slow.places) < 12):
            ask = some_served(source, letters, 6)
            self.assert_same(fleet.ask(ask), slow.ask(ask))
            return
        ticket = source.randrange(len(slow.places))
        number, there = slow.places[ticket]
        house, slow_house = fleet.house(number), slow.houses[number]
        if name == "move" and len(slow_house.requests) < 30:
            to = source.randrange(len(slow.houses))
            self.assert_same(fleet.move(ticket, to), slow.move(ticket, to))
        elif name == "deliver":
            self.assert_same(fleet.deliver(ticket), slow.deliver(ticket))
        elif name == "fall" and source.random() < 0.3:
            fleet.fall(number)
            slow.fall(number)
        elif name == "step":
            plan = ((there, source.choice([1, 3, 9])),)
            self.assert_same(house.step(plan), slow_house.step(plan))
        elif name == "guess":
            guesses = right_guesses(slow_house, there, 5)
            self.assert_same(house.guess(there, guesses), slow_house.guess(there, guesses))
        elif name in ("swap_out", "put_off"):
            self.assert_same(getattr(house, name)(there), getattr(slow_house, name)(there))

    def test_no_letter_is_delivered_twice(self):
        moved = []
        for seed in range(60):
            source = random.Random(seed)
            parts = some_parts(source)
            fleet = Fleet(Net(*parts), [(30, 1), (16, 2), (8, 8), (13, 4)][:source.randint(1, 4)])
            many = houses_of(fleet)
            asks = [some_served(source, len(parts[1]), 5, 9) for _ in range(5)]
            for ask in asks:
                fleet.ask(ask)
            sent = [()] * 5
            while any(fleet.word(ticket) is None for ticket in range(5)):
                ticket = source.randrange(5)
                house, there = fleet.place(ticket)
                names = ["step", "step", "alone", "deliver", "move", "move", "fall", "swap_out", "put_off"]
                name = source.choice(names)
                if name == "step":
                    fleet.house(house).step(((there, source.randint(1, 5)),))
                elif name == "alone":
                    for other in fleet.house(house).going():
                        fleet.house(house).swap_out(other)
                    fleet.house(house).swap_in(there)
                    fleet.house(house).step(((there, 9),))
                elif name == "deliver":
                    sent[ticket] += fleet.deliver(ticket)
                elif name == "move" and len(moved) < 25 * (seed + 1):
                    moved.append(fleet.move(ticket, source.randrange(many)))
                elif name == "fall" and source.random() < 0.2:
                    fleet.fall(house)
                elif name in ("swap_out", "put_off"):
                    getattr(fleet.house(house), name)(there)
            for ticket in range(5):
                sent[ticket] += fleet.deliver(ticket)
            self.assert_same(tuple(sent), tuple(alone(parts, ask)[0] for ask in asks))
        self.assertGreater(moved.count(True), 200)


def houses_of(fleet):
    """How many houses the fleet has."""
    many = 0
    while True:
        try:
            fleet.house(many)
        except NoHouse:
            return many
        many += 1
