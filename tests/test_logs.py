"""[17] and [18]: what is sent of a growing text, and houses that come back."""

import random

from servedalone.asks import Ask
from servedalone.errors import InvalidNumber
from servedalone.houses import House
from servedalone.nets import Net
from servedalone.rules import Rule
from tests.helpers import (
    COUNTING, EVEN, ROUND, Case, alone, as_lists, kinds, parts_of_net, seen, spoil, whole_state, writing,
    wrong_numbers,
)
from tests.pairs import CALLS, Pair, some_parts, some_served

ENDLESS = EVEN[:5] + (None,)


class Sendable(Case):
    def test_without_stops(self):
        for many in range(5):
            house = writing(Ask((0,), 9), many)
            self.assert_same(house.sendable(0), (1, 2, 3, 0)[:many])
            self.assert_same(house.sendable(ticket=0), house.text(0))

    def test_a_stop_that_may_still_come(self):
        ask = Ask((0,), 9, stops=((1, 2, 3, 3), (3, 0, 0), (0, 1, 3)))
        found = [writing(ask, many).sendable(0) for many in range(8)]
        texts = (1, 2, 3, 0, 1, 2, 3)
        self.assert_same(found, [(), (), (), (), texts[:2], texts[:3], texts[:4], texts[:4]])

    def test_a_stop_that_came(self):
        house = writing(Ask((0,), 9, stops=((3, 0), (2, 3, 0, 1))), 4)
        self.assert_same((house.word(0), house.text(0), house.sendable(0)), ("stop", (1, 2), (1, 2)))

    def test_with_a_word_all_is_sent(self):
        stops = ((3, 3),)
        for parts, ask in (
            (ROUND, Ask((0,), 3, stops=stops)), (COUNTING, Ask((0,), 9, stops=stops)),
            (ROUND, Ask((0,), 9, stops=stops, rule=Rule(0, ((None, 0, 0, 1), (None,) * 4)))),
        ):
            house = writing(ask, 2, parts)
            self.assert_same(house.sendable(0), (1, 2))
            house.step(((0, 1),))
            wanted = (1, 2, 3) if house.word(0) else (1, 2)
            self.assert_same(house.sendable(0), wanted)
            house.step(((0, 1),))
            self.assert_same((house.text(0), house.sendable(0)), ((1, 2, 3), (1, 2, 3)))
            self.assertIn(house.word(0), ("most", "end", "stuck"))

    def test_a_cancelled_request(self):
        house = writing(Ask((0,), 9, stops=((3, 3),)), 3)
        house.cancel(0)
        self.assert_same((house.text(0), house.sendable(0)), ((1, 2, 3), (1, 2)))
        self.assert_same((house.deliver(0), house.delivered(0)), ((1, 2), 2))

    def test_a_request_that_is_out(self):
        house = writing(Ask((0,), 9, stops=((3, 3),)), 3)
        house.swap_out(0)
        self.assert_same((house.sendable(0), house.deliver(0)), ((1, 2), (1, 2)))


class Deliver(Case):
    def test_again_and_again(self):
        house = writing(Ask((0,), 9, stops=((3, 0, 0),)), 2)
        self.assert_same((house.delivered(0), house.deliver(0), house.delivered(0)), (0, (1, 2), 2))
        self.assert_same((house.deliver(ticket=0), house.delivered(ticket=0)), ((), 2))
        house.step(((0, 1),))
        self.assert_same((house.text(0), house.deliver(0), house.delivered(0)), ((1, 2, 3), (), 2))
        house.step(((0, 2),))
        self.assert_same((house.text(0), house.deliver(0), house.delivered(0)), ((1, 2, 3, 0, 1), (3, 0, 1), 5))
        house.step(((0, 9),))
        self.assert_same((house.deliver(0), house.deliver(0), house.delivered(0)), ((2, 3, 0, 1), (), 9))

    def test_it_changes_nothing_else(self):
        house = writing(Ask((0,), 9), 4)
        requests, *others = seen(house)
        house.deliver(0)
        text, *rest = requests[0]
        self.assertEqual(seen(house), ((tuple([text] + rest[:4] + [4] + rest[5:]),), *others))

    def test_nothing_is_taken_back(self):
        for seed in range(150):
            source = random.Random(seed)
            parts = some_parts(source)
            stops = [[source.randrange(len(parts[1])) for _ in range(source.randint(1, 4))] for _ in range(4)]
            tape = [source.randrange(1000) for _ in range(7)]
            ask = Ask([source.randrange(len(parts[1]))], 20, stops=stops, tape=tape)
            house = House(Net(*parts), 30, 2)
            house.ask(ask)
            sent = ()
            while house.word(0) is None:
                house.step(((0, source.randint(1, 3)),))
                if source.random() < 0.7:
                    sent += house.deliver(0)
                    self.assert_same(house.delivered(0), len(sent))
            sent += house.deliver(0)
            self.assert_same((sent, house.word(0)), alone(parts, ask))


class Log(Case):
    def test_an_empty_house(self):
        house = House(Net(*ROUND), 3, 2)
        self.assert_same(house.log(), ())
        self.assertEqual(whole_state(House.come_back(house.net, 3, 2, ())), whole_state(house))

    def test_what_it_tells(self):
        rule = Rule(0, ((0, 0, 0, 0),))
        house = House(Net(*ROUND), 40, 2)
        for ask in (
            Ask((0,), 9, stops=((3, 3),), tape=(6, 1), rule=rule), Ask((0, 1), 2), Ask((0,), 9, stops=((3, 3),)),
            Ask((1,), 9),
        ):
            house.ask(ask)
        house.step(((1, 9), (2, 3), (3, 2)))
        house.deliver(2)
        house.cancel(2)
        house.deliver(3)
        house.step(((3, 1),))
        house.fork(3, [4, 5])
        found = house.log()
        self.assert_same(kinds(found)[0], "tuple")
        self.assert_same(found[0], ((0,), 9, ((3, 3),), (6, 1), rule, (), None, 0))
        self.assertIs(found[0][4], rule)
        self.assert_same(found[1], ((0, 1), 2, (), (), None, (2, 3), "most", 0))
        self.assert_same(found[2], ((0,), 9, ((3, 3),), (), None, (1, 2, 3), "cancelled", 2))
        self.assert_same(found[3], ((1,), 9, (), (), None, (2, 3), None, 2))
        self.assert_same(found[4], ((1,), 9, (), (4, 5), None, (2, 3, 0), None, 0))
        self.assert_same(len(found), 5)

    def test_the_longer_one_of_begun_and_delivered(self):
        house = House(Net(*ROUND), 40, 2)
        house.ask(Ask((0,), 9))
        house.step(((0, 2),))
        house.fork(0, ())
        house.step(((1, 2),))
        self.assert_same(house.log()[1][5:], ((1, 2), None, 0))
        house.deliver(1)
        house.step(((1, 1),))
        self.assert_same(house.log()[1][5:], ((1, 2, 3, 0), None, 4))
        house.swap_out(1)
        self.assert_same(house.log()[1][5:], ((1, 2, 3, 0), None, 4))


class ComeBack(Case):
    def test_requests_go_on(self):
        house = House(Net(*ROUND), 40, 2)
        for ask in (Ask((0,), 9), Ask((0, 1), 2), Ask((0,), 9, stops=((3, 3),)), Ask((1,), 9)):
            house.ask(ask)
        house.step(((0, 3), (1, 9), (2, 3), (3, 2)))
        house.deliver(3)
        house.deliver(2)
        house.cancel(2)
        house.step(((3, 1),))
        house.swap_out(3)
        log = house.log()
        back = self.assert_keeps(House.come_back, house.net, 7, 3, log)
        self.assertIs(type(back), House)
        self.assertIs(back.net, house.net)
        self.assert_same((back.store.many, back.store.size, back.store.free), (7, 3, 7))
        self.assert_same((list(back.tree), back.reckoned), ([], 0))
        self.assert_same((back.going(), back.log()), ((0, 3), log))
        found = [(back.text(one), back.word(one), back.delivered(one), back.is_out(one)) for one in range(4)]
        self.assert_same(found[:2], [((), None, 0, False), ((2, 3), "most", 0, False)])
        self.assert_same(found[2:], [((1, 2, 3), "cancelled", 2, False), ((2, 3), None, 2, False)])
        self.assert_same([(back.blocks_of(one), back.length_of(one)) for one in range(4)], [((), 0)] * 4)
        back.step(((0, 60), (3, 60)))
        self.assert_same((back.text(0), back.text(3)), ((1, 2, 3, 0, 1, 2, 3, 0, 1), (2, 3, 0, 1, 2, 3, 0, 1, 2)))
        self.assert_same([back.deliver(one) for one in range(4)], [back.text(0), (2, 3), (), back.text(3)[2:]])
        self.assert_same(back.ask(Ask((1,), 1)), 4)

    def test_they_begin_with_the_text_in_the_log(self):
        house = House(Net(*ROUND), 40, 2)
        house.ask(Ask((0,), 9))
        house.step(((0, 4),))
        house.deliver(0)
        house.step(((0, 2),))
        back = House.come_back(house.net, 40, 2, house.log())
        self.assert_same(back.text(0), (1, 2, 3, 0))
        back.step(((0, 7),))
        self.assert_same((back.text(0), back.log()[0][5:]), ((1, 2, 3, 0, 1, 2, 3), ((1, 2, 3, 0), None, 4)))
        again = House.come_back(back.net, 40, 2, back.log())
        self.assert_same((again.text(0), again.deliver(0)), ((1, 2, 3, 0), ()))

    def test_less_may_be_sendable_than_was_delivered(self):
        house = House(Net(*ROUND), 40, 2)
        house.ask(Ask((0,), 9, stops=((3, 0, 2), (0, 1, 2, 2))))
        house.step(((0, 6),))
        self.assert_same((house.text(0), house.deliver(0)), ((1, 2, 3, 0, 1, 2), (1, 2, 3)))
        back = House.come_back(house.net, 40, 2, house.log())
        self.assert_same((back.text(0), back.sendable(0)), ((1, 2, 3), (1, 2)))
        self.assert_same((back.deliver(0), back.delivered(0)), ((), 3))
        back.step(((0, 20),))
        self.assert_same((back.deliver(0), back.text(0)), ((0, 1, 2, 3, 0, 1), (1, 2, 3, 0, 1, 2, 3, 0, 1)))

    def test_lists_and_names(self):
        rule = Rule(0, ((0, 0, 0, 0),))
        house = House(Net(*ROUND), 40, 2)
        house.ask(Ask((0,), 9, stops=((3, 3),), tape=(6, 1), rule=rule))
        house.step(((0, 4),))
        house.deliver(0)
        house.ask(Ask((0,), 9))
        log = as_lists(house.log())
        back = House.come_back(log=log, size=2, many=40, net=house.net)
        wanted = House.come_back(house.net, 40, 2, house.log())
        spoil(log)
        self.assertEqual(whole_state(back), whole_state(wanted))
        self.assert_same(back.log(), wanted.log())
        back.step(((0, 60), (1, 60)))
        wanted.step(((0, 60), (1, 60)))
        self.assert_same(back.log(), wanted.log())

    def test_the_old_house_stays(self):
        house = writing(Ask((0,), 9), 4)
        log = house.log()
        before = whole_state(house)
        back = House.come_back(house.net, 40, 2, log)
        back.step(((0, 60),))
        back.deliver(0)
        self.assertEqual(whole_state(house), before)
        self.assert_same(log, house.log())

    def test_wrong_numbers(self):
        net, log = Net(*ROUND), writing(Ask((0,), 9), 4).log()
        for number in wrong_numbers(1, 60):
            self.assert_fails(InvalidNumber, {"number": number}, House.come_back, net, number, 9, log)
        for number in wrong_numbers(1, 8):
            self.assert_fails(InvalidNumber, {"number": number}, House.come_back, net, 60, number, log)

    def test_a_fork_that_falls_begins_with_its_own_text(self):
        parts = parts_of_net(random.Random(6), letters=4, width=2, layers=1)
        house = House(Net(*parts), 40, 2)
        house.ask(Ask((0, 3), 9, tape=(1, 5, 9)))
        house.step(((0, 6),))
        begun = house.text(0)
        house.fork(0, (8, 8, 1))
        house.step(((1, 2), (0, 1)))
        back = House.come_back(house.net, 40, 2, house.log())
        self.assert_same((back.text(0), back.text(1)), ((), begun))
        back.step(((0, 60), (1, 60)))
        self.assert_same((back.text(1), back.word(1)), alone(parts, Ask((0, 3), 9, tape=(8, 8, 1)), begun))
        self.assert_same((back.text(0), back.word(0)), alone(parts, Ask((0, 3), 9, tape=(1, 5, 9))))


class AnyFalls(Case):
    def test_each_asker_is_delivered_the_same_text(self):
        falls = 0
        for seed in range(80):
            source = random.Random(seed)
            parts = some_parts(source)
            shape = source.choice([(30, 1), (16, 2), (60, 8)])
            house = House(Net(*parts), *shape)
            asks = [some_served(source, len(parts[1]), 5, 9) for _ in range(4)]
            for ask in asks:
                house.ask(ask)
            sent = [()] * 4
            while house.going():
                ticket = source.choice(house.going())
                name = source.choice(["step", "step", "deliver", "deliver", "fall", "swap_out", "swap_in", "alone"])
                if name == "deliver":
                    sent[ticket] += house.deliver(ticket)
                elif name == "fall" and falls < 20 * (seed + 1):
                    falls += 1
                    house = House.come_back(house.net, *shape, house.log())
                elif name == "step":
                    house.step(((ticket, source.randint(1, 6)),))
                elif name == "alone":
                    for other in house.going():
                        house.swap_out(other)
                    house.swap_in(ticket)
                    house.step(((ticket, 9),))
                elif name.startswith("swap"):
                    getattr(house, name)(ticket)
                for one in range(4):
                    self.assert_same(house.delivered(one), len(sent[one]))
            house = House.come_back(house.net, *shape, house.log())
            for ticket in range(4):
                sent[ticket] += house.deliver(ticket)
            self.assert_same(tuple(sent), tuple(alone(parts, ask)[0] for ask in asks))
        self.assertGreater(falls, 200)

    def test_against_the_slow_house(self):
        for seed in range(50):
            pair = Pair(self, seed)
            for _ in range(60):
                pair.one_call(CALLS + ["come_back"] * 4 + ["deliver"] * 6)
                pair.check()
                self.assertEqual(pair.house.log(), pair.slow.log())
            pair.check_all()
