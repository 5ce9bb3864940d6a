"""[35]: snapshots."""

import copy
import random

from servedalone.asks import Ask
from servedalone.audits import faults
from servedalone.deeds import do, picture
from servedalone.fleets import Fleet
from servedalone.forests import guess_best
from servedalone.houses import House
from servedalone.nets import Net
from servedalone.planners import serve
from servedalone.rules import Rule
from servedalone.shelves import warm, write_paths
from servedalone.snapshots import restore, snapshot
from tests.helpers import (
    OWN_ERRORS, ROUND, Case, all_rows, alone, as_lists, dropped, parts_of_net, spoil, whole_state,
)
from tests.pairs import CALLS, Deeds, Pair, some_served


def told(house):
    """What has to be equal of a house and one that was saved."""
    return picture(house), house.log(), house.reckoned


def kinds_inside(value):
    """The kinds of all values that are in this one, at any depth."""
    if type(value) is tuple:
        return {tuple}.union(*[kinds_inside(part) for part in value])
    return {type(value)}


def some_deeds(source, house, letters, many):
    """Deeds that may be done to the house now or a bit later."""
    deeds = []
    for _ in range(many):
        tickets = len(house.log()) or 1
        ticket = source.randrange(tickets)
        name = source.choice(["step"] * 5 + ["guess", "fork", "ask", "swap_in", "swap_in"] + [
            "put_off", "swap_out", "cancel", "deliver",
        ])
        if name == "step":
            plan = [(source.randrange(tickets), source.randint(0, 9)) for _ in range(source.randint(1, 4))]
            deeds.append((name, plan))
        elif name == "guess":
            deeds.append((name, ticket, [source.randrange(letters) for _ in range(3)]))
        elif name == "fork":
            deeds.append((name, ticket, [source.randrange(1000) for _ in range(2)]))
        elif name == "ask":
            deeds.append((name, some_served(source, letters, 6, 12)))
        else:
            deeds.append((name, ticket))
    return deeds


def result(house, deed):
    """What the deed gives, or the error that it raises."""
    try:
        return do(house, deed)
    except OWN_ERRORS as error:
        return type(error), vars(error)


class SnapshotCase(Case):
    def assert_goes_on(self, house, deeds, *others):
        """All houses are the same now and behind each of these deeds."""
        for other in others:
            self.assertEqual(told(other), told(house))
        for deed in deeds:
            wanted = result(house, deed)
            for other in others:
                self.assert_same(result(other, deed), wanted)
                self.assertEqual(told(other), told(house))
        for other in others:
            self.assert_same(picture(other), picture(house))
            self.assertEqual(whole_state(other), whole_state(house))


class ByHand(SnapshotCase):
    def test_an_empty_house(self):
        net = Net(*ROUND)
        house = restore(net, snapshot(House(net, 3, 2)))
        self.assertIs(type(house), House)
        self.assertIs(house.net, net)
        self.assert_same((house.store.many, house.store.size, house.store.free), (3, 2, 3))
        self.assertEqual(whole_state(house), whole_state(House(net, 3, 2)))

    def test_a_house_with_all_kinds_of_requests(self):
        rule = Rule(0, ((0, 0, 0, 1), (None, 0, 1, 1)))
        house = House(Net(*ROUND), 12, 2)
        for ask in (Ask((0, 1), 9, stops=((3, 3), (1,)), tape=(4, 99), rule=rule), Ask((0, 1, 2), 2), Ask((3,), 9)):
            house.ask(ask)
        house.step(((1, 60), (0, 3), (2, 4)))
        house.deliver(2)
        house.fork(2, (5,))
        house.swap_out(2)
        house.guess(3, (1, 1))
        house.cancel(0)
        house.ask(Ask((0, 1, 2, 3), 1))
        house.swap_out(4)
        before = whole_state(house)
        saved = self.assert_keeps(snapshot, house=house)
        self.assertEqual(whole_state(house), before)
        other = self.assert_keeps(restore, saved=saved, net=house.net)
        self.assert_same(told(other), told(house))
        self.assertEqual(whole_state(other), before)
        self.assert_same(other.log()[0][4] == rule, True)
        deeds = [("swap_in", 2), ("swap_in", 4), ("step", ((2, 60), (3, 60), (4, 60))), ("deliver", 2), ("deliver", 3)]
        self.assert_goes_on(house, deeds, other)
        self.assert_same(house.word(2), "most")

    def test_only_rules_are_objects(self):
        house = House(Net(*ROUND), 12, 2)
        house.ask(Ask((0, 1), 9, rule=Rule(0, ((0,) * 4,))))
        house.step(((0, 3),))
        self.assertEqual(kinds_inside(snapshot(house)) - {int, str, type(None)}, {tuple, Rule})
        house = House(Net(*ROUND), 12, 2)
        house.ask(Ask((0, 1), 9, tape=(4,), stops=((3, 3),)))
        house.step(((0, 3),))
        self.assertEqual(kinds_inside(snapshot(house)) - {int, str, type(None)}, {tuple})

    def test_lists_in_place_of_tuples(self):
        for seed in range(30):
            pair = Deeds(self, seed)
            for _ in range(30):
                pair.one_deed()
            saved = as_lists(snapshot(pair.house))
            other = self.assert_keeps(restore, pair.net, saved)
            spoil(saved)
            self.assert_goes_on(pair.house, some_deeds(pair.source, pair.house, pair.letters, 15), other)

    def test_last_uses(self):
        house = House(Net(*ROUND), 12, 1)
        for prompt in ((0, 1), (2,), (0, 3), (3, 1)):
            house.step(((house.ask(Ask(prompt, 1)), 60),))
        house.tree.known((2, 0))
        house.tree.known((0, 2))
        other = restore(house.net, snapshot(house))
        gone = dropped(house)
        self.assert_same(gone[:gone.index("cancelled")], [(0, 1), (0, 3), (3, 1), (3,), (2,), (0,)])
        self.assert_same(dropped(other), gone)

    def test_a_house_of_a_fleet(self):
        fleet = Fleet(Net(*ROUND), ((9, 2), (3, 2)))
        for letter in range(4):
            fleet.ask(Ask((letter, 1), 9, stops=((letter, letter),)))
        for number in (0, 1):
            fleet.house(number).step([(ticket, 4) for ticket in fleet.house(number).going()])
        for ticket in range(4):
            fleet.deliver(ticket)
            fleet.move(ticket, 1)
        fleet.move(3, 0)
        for number in (0, 1):
            house = fleet.house(number)
            other = restore(house.net, snapshot(house))
            deeds = [("swap_in", ticket) for ticket in house.going()] + [("step", [(t, 60) for t in house.going()])]
            self.assert_goes_on(house, deeds + [("deliver", ticket) for ticket in range(len(house.log()))], other)


class AtEveryPlace(SnapshotCase):
    def test_drawn_rows_of_deeds(self):
        states = {}
        for seed in range(40):
            pair = Deeds(self, seed)
            source = random.Random(seed)
            for _ in range(30):
                pair.one_deed()
                if source.random() < 0.1:
                    pair.one_of_the_tree_or_a_turn("come_back")
                house = pair.house
                before = whole_state(house)
                saved = snapshot(house)
                self.assertEqual(whole_state(house), before)
                self.assertLessEqual(kinds_inside(saved), {tuple, int, str, type(None), Rule})
                other, again = restore(pair.net, saved), restore(pair.net, saved)
                self.assertEqual(whole_state(other), before)
                self.assert_same(faults(other), ())
                deeds = some_deeds(source, house, pair.letters, 4)
                self.assert_goes_on(copy.deepcopy(house), deeds, other, again)
                # The house as it was when it was saved, and a snapshot of one that was restored.
                self.assertEqual(told(restore(pair.net, saved)), told(house))
                self.assertEqual(snapshot(restore(pair.net, saved)), saved)
                self.assertEqual(whole_state(house), before)
                for request in picture(house)[2]:
                    state = "out" if request[11] is not None else request[8]
                    states[state, request[7] > 0, request[4] is None, request[12] > 0] = True
        self.assertGreater(len(states), 20)

    def test_long_rows_behind_it(self):
        for seed in range(60):
            pair = Deeds(self, seed)
            source = random.Random(seed)
            for _ in range(25):
                pair.one_call(CALLS)
            other = restore(pair.net, snapshot(pair.house))
            deeds = some_deeds(source, pair.house, pair.letters, 40)
            self.assert_goes_on(pair.house, deeds, other)

    def test_in_place_of_the_house(self):
        for seed in range(60):
            pair = Pair(self, seed)
            for _ in range(40):
                pair.one_call(CALLS + ["come_back"])
                pair.house = restore(pair.net, snapshot(pair.house))
                pair.check()
                if pair.source.random() < 0.2:
                    pair.check_all()
            pair.check_all()
            self.assert_same(picture(pair.house), pair.slow.picture())

    def test_restored_behind_further_deeds(self):
        for seed in range(30):
            pair = Deeds(self, seed)
            source = random.Random(seed)
            for _ in range(20):
                pair.one_deed()
            saved = snapshot(pair.house)
            before, kept = whole_state(pair.house), copy.deepcopy(pair.house)
            first = restore(pair.net, saved)
            for house in (pair.house, first):
                for deed in some_deeds(source, house, pair.letters, 20):
                    result(house, deed)
                while house.tree.drop():
                    continue
            second = restore(pair.net, saved)
            self.assertEqual(whole_state(second), before)
            self.assert_goes_on(kept, some_deeds(source, kept, pair.letters, 15), second)

    def test_other_calls_too(self):
        for seed in range(40):
            pair = Deeds(self, seed, shape=(60, 1 + seed % 4))
            source = random.Random(seed)
            for _ in range(20):
                pair.one_deed()
            house, other = pair.house, restore(pair.net, snapshot(pair.house))
            shelf = write_paths(other)
            self.assert_same(shelf, write_paths(house))
            for one in (house, other):
                while one.store.free < 30 and one.tree.drop():
                    continue
            self.assert_same(warm(other, shelf), warm(house, shelf))
            for ticket in house.going():
                forest = [[source.randrange(pair.letters) for _ in range(3)] for _ in range(3)]
                self.assert_same(guess_best(other, ticket, forest), guess_best(house, ticket, forest))
            self.assertEqual(told(other), told(house))
            self.assert_same(serve(other), serve(house))
            self.assertEqual(told(other), told(house))
            self.assertEqual(all_rows(other), all_rows(house))

    def test_texts_are_those_that_are_written_alone(self):
        for seed in range(20):
            source = random.Random(seed)
            parts = parts_of_net(source, letters=3, width=2, layers=1, end=None)
            net = Net(*parts)
            house, asks = House(net, 60, 2), []
            for _ in range(5):
                asks.append(some_served(source, 3, 6, 12))
                house.ask(asks[-1])
                for deed in some_deeds(source, house, 3, 3):
                    if deed[0] not in ("ask", "fork", "cancel"):
                        result(house, deed)
                house = restore(net, snapshot(house))
            serve(house)
            for ticket, ask in enumerate(asks):
                self.assert_same((house.text(ticket), house.word(ticket)), alone(parts, ask))
