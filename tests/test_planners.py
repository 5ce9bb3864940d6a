"""[20]: how many blocks a request needs, turns, and serving to the end."""

import random

from servedalone.asks import Ask
from servedalone.errors import NoRequest, TooLarge
from servedalone.houses import House
from servedalone.nets import Net
from servedalone.planners import needed, serve, turn
from tests.helpers import COUNTING, EVEN, Case, alone, seen, whole_state, wrong_numbers
from tests.pairs import CALLS, Pair, some_parts, some_served
from tests.slow import SlowHouse

ENDLESS = EVEN[:5] + (None,)
ROUND = COUNTING[:5] + (None,)


class Needed(Case):
    def test_blocks_for_the_rows_that_may_be_read(self):
        for size in range(1, 9):
            house = House(Net(*ROUND), 1, size)
            for many in (1, 2, 5, 8, 19, 20):
                for most in (1, 2, 7, 30):
                    ticket = house.ask(Ask((0,) * many, most))
                    blocks = [block for block in range(60) if block * size < many + most - 1]
                    self.assert_same(needed(house, ticket), len(blocks))

    def test_at_any_time(self):
        house = House(Net(*ROUND), 9, 2)
        house.ask(Ask((0,), 6))
        house.step(((0, 2),))
        before = whole_state(house)
        self.assert_same(needed(ticket=0, house=house), 3)
        self.assertEqual(whole_state(house), before)
        house.swap_out(0)
        self.assert_same(needed(house, 0), 3)
        house.cancel(0)
        self.assert_same(needed(house, 0), 3)
        house.ask(Ask((1, 1), 6))
        house.step(((1, 4),))
        self.assert_same(needed(house, house.fork(1, ())), 4)

    def test_just_so_many_are_enough(self):
        for size in range(1, 9):
            for many, most in ((1, 1), (3, 6), (8, 9), (9, 8)):
                ask = Ask((0,) * many, most)
                least = -(-(many + most - 1) // size)
                house = House(Net(*ROUND), least, size)
                house.ask(ask)
                self.assert_same((needed(house, 0), house.step(((0, 60),))), (least, (0,)))
                if least > 1:
                    house = House(Net(*ROUND), least - 1, size)
                    house.ask(ask)
                    self.assert_same(house.step(((0, 60),)), ())

    def test_no_ticket(self):
        house = House(Net(*ROUND), 9, 2)
        house.ask(Ask((0,), 6))
        for ticket in wrong_numbers(0, 0):
            self.assert_fails(NoRequest, {"ticket": ticket}, needed, house, ticket)


class Turn(Case):
    def test_each_going_request_once(self):
        house = House(Net(*ROUND), 20, 2)
        for prompt in ((0, 1), (1,), (2,), (3,)):
            house.ask(Ask(prompt, 2))
        house.cancel(2)
        self.assert_same(turn(house), ())
        self.assert_same([house.text(ticket) for ticket in range(4)], [(), (2,), (), (0,)])
        self.assert_same(turn(house=house), (1, 3))
        self.assert_same([house.text(ticket) for ticket in range(4)], [(2,), (2, 3), (), (0, 1)])
        self.assert_same((turn(house), turn(house)), ((0,), ()))

    def test_those_that_are_out_come_in(self):
        house = House(Net(*ROUND), 20, 2)
        for prompt in ((0, 1, 2), (1,)):
            house.ask(Ask(prompt, 2))
        house.step(((0, 2),))
        house.swap_out(0)
        self.assert_same((turn(house), house.is_out(0), house.length_of(0), house.text(0)), ((), False, 3, (3,)))

    def test_those_that_find_no_room_stay_out(self):
        house = House(Net(*ROUND), 2, 2)
        for prompt in ((0, 1, 2), (1, 1, 1)):
            house.ask(Ask(prompt, 2))
        house.step(((0, 2),))
        house.swap_out(0)
        house.step(((1, 3),))
        self.assert_same((turn(house), house.is_out(0), house.text(1)), ((1,), True, (2, 3)))
        self.assert_same((turn(house), house.is_out(0), turn(house)), ((), False, (0,)))

    def test_no_requests(self):
        self.assert_same(turn(House(Net(*ROUND), 2, 2)), ())

    def test_it_is_in_ascending_order(self):
        house = House(Net(*ENDLESS), 2, 1)
        for prompt in ((1,), (2,), (3,)):
            house.ask(Ask(prompt, 9))
        turn(house)
        self.assert_same([house.length_of(ticket) for ticket in range(3)], [1, 1, 0])


class Serve(Case):
    def test_with_room_for_all(self):
        house = House(Net(*ROUND), 30, 2)
        for prompt, most in (((0,), 3), ((1, 2), 5), ((3,), 1)):
            house.ask(Ask(prompt, most))
        self.assert_same(serve(house=house), 6)
        self.assert_same([house.text(ticket) for ticket in range(3)], [(1, 2, 3), (3, 0, 1, 2, 3), (0,)])
        self.assert_same((serve(house), house.going()), (0, ()))

    def test_no_requests(self):
        self.assert_same(serve(House(Net(*ROUND), 2, 2)), 0)

    def test_others_are_put_off(self):
        house = House(Net(*ENDLESS), 3, 1)
        for prompt in ((1, 1), (2, 2), (3, 3)):
            house.ask(Ask(prompt, 2))
        # In turn 1 each gets a block. In turn 2 nothing changes, and the first one goes on alone. In turn 3 the next
        # two get a block each, and in turn 4 the second one another one. In turn 5 nothing changes, and it goes on
        # alone. Then the third one needs turns 6, 7, and 8.
        asks = [Ask((one, one), 2) for one in (1, 2, 3)]
        self.assert_same((serve(house), self.slow_turns(ENDLESS, (3, 1), asks)), (8, 8))
        self.assert_same([(house.text(ticket), house.word(ticket)) for ticket in range(3)], [((3, 3), "most")] * 3)

    def slow_turns(self, parts, shape, asks):
        slow = SlowHouse(parts, *shape)
        for ask in asks:
            slow.ask(ask)
        return slow.serve()

    def test_the_lowest_one_that_is_out_comes_in(self):
        house = House(Net(*ROUND), 2, 2)
        for prompt in ((0, 1, 2), (1, 1, 1)):
            house.ask(Ask(prompt, 2))
        house.step(((0, 2),))
        house.swap_out(0)
        house.step(((1, 2),))
        house.fork(1, ())
        house.step(((1, 1),))
        self.assert_same((serve(house) > 0, house.going()), (True, ()))
        self.assert_same([house.text(ticket) for ticket in range(3)], [(3, 0), (2, 3), (2, 3)])

    def test_too_large(self):
        house = House(Net(*ROUND), 3, 2)
        for many, most in ((4, 3), (5, 3), (4, 4), (9, 9)):
            house.ask(Ask((0,) * many, most))
        house.step(((0, 2), (2, 1)))
        before = whole_state(house)
        self.assert_fails(TooLarge, {"ticket": 1}, serve, house)
        self.assertEqual(whole_state(house), before)
        house.cancel(1)
        before = whole_state(house)
        self.assert_fails(TooLarge, {"ticket": 2}, serve, house)
        self.assertEqual(whole_state(house), before)
        house.cancel(2)
        house.cancel(3)
        self.assert_same((serve(house) > 0, house.word(0), house.word(3)), (True, "most", "cancelled"))

    def test_those_that_need_just_all_blocks(self):
        house = House(Net(*ROUND), 3, 2)
        for _ in range(3):
            house.ask(Ask((0, 1, 2, 3), 3))
        serve(house)
        self.assert_same([house.text(ticket) for ticket in range(3)], [(0, 1, 2)] * 3)

    def test_each_text_is_that_of_the_net_alone(self):
        for seed in range(80):
            source = random.Random(seed)
            parts = some_parts(source)
            asks = [some_served(source, len(parts[1]), 6, 12) for _ in range(source.randint(1, 6))]
            size = source.randint(1, 4)
            least = max(-(-(len(ask.prompt) + ask.most - 1) // size) for ask in asks)
            house = House(Net(*parts), min(60, least + source.choice([0, 0, 1, 3, 20])), size)
            for ask in asks:
                house.ask(ask)
            house.step([(source.randrange(len(asks)), 2) for _ in range(3)])
            house.swap_out(source.randrange(len(asks)))
            serve(house)
            found = [(house.text(ticket), house.word(ticket)) for ticket in range(len(asks))]
            self.assert_same(found, [alone(parts, ask) for ask in asks])

    def test_against_the_slow_house(self):
        served = 0
        for seed in range(120):
            pair = Pair(self, seed, shape=(12 + seed % 20, 1 + seed % 4))
            for _ in range(25):
                pair.one_call(CALLS + ["turn"] * 4)
                pair.check()
            going = pair.slow.going()
            large = [ticket for ticket in going if pair.slow.needed(ticket) > pair.shape[0]]
            if large:
                before = seen(pair.house)
                self.assert_fails(TooLarge, {"ticket": large[0]}, serve, pair.house)
                self.assertEqual(seen(pair.house), before)
                for ticket in large:
                    pair.do("cancel", ticket)
            self.assert_same(serve(pair.house), pair.slow.serve())
            self.assert_same(pair.house.going(), ())
            served += len(going) > 2
            pair.check_all()
        self.assertGreater(served, 8)
