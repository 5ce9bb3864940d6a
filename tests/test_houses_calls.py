"""[13] to [18] behind long rows of calls, held against a slow house; [15]: put_off, swap_out, swap_in, fork, cancel."""

import random

from servedalone.asks import Ask
from servedalone.houses import House
from servedalone.nets import Net
from servedalone.rules import Rule
from tests.helpers import EVEN, Case, alone, dropped, parts_of_net, reckoned_rows, spoil, whole_state
from tests.pairs import CALLS, Pair, some_parts, some_served

ENDLESS = EVEN[:5] + (None,)


def long_net(seed):
    """A net that never ends a text, with rows that tell the letters before them apart."""
    return Net(*parts_of_net(random.Random(seed), letters=4, width=2, layers=1))


class LongRowsOfCalls(Case):
    def run_calls(self, seeds, calls, many):
        pairs = []
        for seed in seeds:
            pair = Pair(self, seed)
            for call in range(many):
                pair.one_call(calls)
                pair.check()
                if call % 8 == 0:
                    pair.check_all()
            pair.check_all()
            pairs.append(pair)
        return pairs

    def test_all_calls(self):
        self.run_calls(range(120), CALLS, 120)

    def test_with_serve_and_falls(self):
        self.run_calls(range(1000, 1060), CALLS + ["serve", "come_back"], 120)

    def test_steps_alone(self):
        self.run_calls(range(2000, 2030), ["ask", "step", "step", "step", "step"], 100)

    def test_swaps_in_tight_stores(self):
        for seed in range(60):
            pair = Pair(self, seed, shape=(3 + seed % 5, 1 + seed % 3))
            for _ in range(100):
                pair.one_call(["ask", "step", "step", "step", "swap_out", "swap_in", "swap_in", "fork", "drop"])
                pair.check()
            pair.check_all()

    def test_texts_are_those_of_the_net_alone(self):
        for pair in self.run_calls(range(3000, 3040), CALLS + ["come_back"], 80):
            for ticket, request in enumerate(pair.slow.requests):
                wanted = alone(pair.parts, pair_ask(request), request.first)
                text, word = pair.house.text(ticket), pair.house.word(ticket)
                if word in (None, "cancelled"):
                    sent = pair.house.sendable(ticket)
                    self.assertEqual(wanted[0][:len(sent)], sent)
                else:
                    self.assert_same((text, word), wanted)


def pair_ask(request):
    return Ask(request.prompt, request.most, stops=request.stops, tape=request.tape, rule=request.rule)


class AsideCase(Case):
    def made(self, *prompts, shape=(12, 2), net=None):
        house = House(net or long_net(3), *shape)
        for prompt in prompts:
            house.ask(Ask(prompt, 9))
        return house

    def assert_does_nothing(self, house, result, call, *arguments):
        before = whole_state(house)
        self.assert_same(call(*arguments), result)
        self.assertEqual(whole_state(house), before)

    def held(self, house):
        return tuple(house.store.holders(block) for block in range(house.store.many))


class PutOff(AsideCase):
    def test_a_request_with_rows(self):
        house = self.made((1, 2, 3), shape=(6, 2))
        house.step(((0, 4),))
        text = house.text(0)
        self.assert_same((len(text), house.put_off(0)), (2, True))
        self.assert_same((house.text(0), house.word(0), house.blocks_of(0), house.length_of(0)), (text, None, (), 0))
        self.assert_same((house.going(), house.is_out(0), self.held(house)), ((0,), False, (1, 1, 0, 0, 0, 0)))
        house.step(((0, 60),))
        self.assert_same((house.text(0), house.word(0)), alone_told(Ask((1, 2, 3), 9)))

    def test_what_was_read_is_taken_over_again(self):
        house = self.made((1, 2, 3, 0))
        house.step(((0, 4),))
        house.put_off(ticket=0)
        house.step(((0, 2),))
        self.assert_same((house.reckoned, house.length_of(0)), (4, 4))

    def test_a_request_with_no_rows(self):
        house = self.made((1, 2, 3))
        self.assert_does_nothing(house, False, house.put_off, 0)
        house.step(((0, 1),))
        self.assert_same((house.put_off(0), house.put_off(0)), (True, False))

    def test_other_requests(self):
        house = self.made((1, 2, 3), (1,), (2,))
        house.step(((0, 2), (1, 60), (2, 1)))
        house.swap_out(0)
        house.cancel(2)
        for ticket in range(3):
            self.assert_does_nothing(house, False, house.put_off, ticket)


class Swaps(AsideCase):
    def test_out_and_in(self):
        house = self.made((1, 2, 3), shape=(6, 2))
        house.step(((0, 5),))
        text, rows = house.text(0), house.store.rows(0) + house.store.rows(1) + house.store.rows(2)
        self.assert_same((house.is_out(0), house.swap_out(0), house.is_out(0)), (False, True, True))
        self.assert_same((house.text(0), house.word(0), house.blocks_of(0), house.length_of(0)), (text, None, (), 0))
        self.assert_same((house.going(), self.held(house)), ((0,), (1, 1, 0, 0, 0, 0)))
        self.assert_same((house.swap_in(0), house.is_out(0), house.reckoned), (True, False, 5))
        self.assert_same((house.blocks_of(0), house.length_of(0)), ((0, 1, 2), 5))
        self.assert_same(house.store.rows(0) + house.store.rows(1) + house.store.rows(2), rows)
        house.step(((0, 60),))
        self.assert_same((house.text(0), house.word(0)), alone_told(Ask((1, 2, 3), 9)))

    def test_in_again_from_an_empty_tree(self):
        house = self.made((1, 2, 3), shape=(6, 2))
        house.step(((0, 5),))
        house.swap_out(ticket=0)
        while house.tree.drop():
            pass
        self.assert_same((self.held(house), house.swap_in(ticket=0), house.reckoned), ((0,) * 6, True, 5))
        self.assert_same((list(house.tree), self.held(house)), (sorted(house.tree), (2, 2, 1, 0, 0, 0)))
        letters = (1, 2, 3) + house.text(0)
        self.assert_same(list(house.tree), [letters[:2], letters[:4]])
        rows = house.store.rows(0) + house.store.rows(1) + house.store.rows(2)
        self.assert_same(rows, rows_behind(letters[:5]))

    def test_blocks_are_taken_over_when_it_comes_in(self):
        house = self.made((1, 2, 3), (1, 2, 0), shape=(6, 2))
        house.step(((0, 3),))
        house.swap_out(0)
        house.step(((1, 1),))
        house.swap_in(0)
        self.assert_same((house.blocks_of(0), house.blocks_of(1), self.held(house)), ((0, 1), (0,), (3, 1, 0, 0, 0, 0)))

    def test_blocks_beyond_the_rows_aside_are_not_taken_over(self):
        house = self.made((1, 2, 3), (1, 2, 3), shape=(6, 2))
        house.step(((0, 1), (1, 3)))
        house.swap_out(0)
        house.swap_in(0)
        self.assert_same((house.length_of(0), house.blocks_of(0), house.blocks_of(1)), (1, (0,), (1, 2)))

    def test_with_no_rows(self):
        house = self.made((1, 2, 3))
        self.assert_same((house.swap_out(0), house.is_out(0)), (True, True))
        self.assert_does_nothing(house, False, house.swap_out, 0)
        self.assert_same((house.step(((0, 9),)), house.length_of(0), house.text(0)), ((), 0, ()))
        self.assert_same((house.swap_in(0), house.is_out(0), house.length_of(0)), (True, False, 0))
        house.step(((0, 60),))
        self.assert_same((house.text(0), house.word(0)), alone_told(Ask((1, 2, 3), 9)))

    def test_with_no_rows_where_there_is_no_room(self):
        house = self.made((1,), (2, 2), shape=(1, 2))
        house.swap_out(0)
        house.step(((1, 9),))
        self.assert_same((house.store.free, house.swap_in(0), house.is_out(0)), (0, True, False))

    def test_no_room(self):
        house = self.made((1, 2, 3), (2, 2, 2, 2), shape=(3, 2))
        house.step(((0, 3),))
        house.swap_out(0)
        house.step(((1, 4),))
        self.assert_same(self.held(house), (1, 2, 2))
        before = house.text(0), house.length_of(1), house.reckoned
        self.assert_same((house.swap_in(0), house.is_out(0), house.blocks_of(0)), (False, True, ()))
        self.assert_same((house.text(0), house.length_of(1), house.reckoned), before)
        self.assert_same((self.held(house), house.step(((0, 5),))), ((1, 2, 2), ()))
        house.cancel(1)
        self.assert_same((house.swap_in(0), house.is_out(0), house.length_of(0)), (True, False, 3))

    def test_what_came_into_the_tree_on_the_way_stays(self):
        house = self.made((1, 2, 3), (2,), shape=(2, 1))
        house.step(((0, 2),))
        house.swap_out(0)
        while house.tree.drop():
            pass
        house.step(((1, 1),))
        self.assert_same((list(house.tree), self.held(house)), ([(2,)], (2, 0)))
        self.assert_same((house.swap_in(0), house.is_out(0)), (False, True))
        self.assert_same((list(house.tree), self.held(house)), ([(1,), (2,)], (2, 1)))

    def test_what_was_dropped_on_the_way_is_gone(self):
        house = self.made((1, 2, 3), (3,), (2, 2), shape=(3, 1))
        house.step(((0, 3),))
        house.swap_out(0)
        while house.tree.drop():
            pass
        house.step(((1, 1), (2, 1)))
        house.put_off(1)
        self.assert_same((list(house.tree), house.swap_in(0)), ([(2,), (3,)], False))
        self.assert_same((list(house.tree), house.length_of(0)), ([(1,), (1, 2), (2,)], 0))

    def test_it_is_no_use_to_keep_rows_aside_for_others(self):
        house = self.made((1, 2), (2,))
        house.step(((0, 2), (1, 60)))
        self.assert_does_nothing(house, False, house.swap_in, 0)
        self.assert_does_nothing(house, False, house.swap_in, 1)
        self.assert_does_nothing(house, False, house.swap_out, 1)
        house.cancel(0)
        for call in (house.swap_in, house.swap_out, house.is_out):
            self.assert_does_nothing(house, False, call, 0)

    def test_advances_pass_over_a_request_that_is_out(self):
        house = self.made((1, 2), (2, 2))
        house.step(((0, 1), (1, 1)))
        house.swap_out(0)
        self.assert_same(house.step(((0, 60), (1, 60))), (1,))
        self.assert_same((house.text(0), house.going()), ((), (0,)))


class Forks(AsideCase):
    def test_another_request_from_the_same_text(self):
        net = long_net(3)
        rule = Rule(0, ((0, 0, 0, 0),))
        house = House(net, 12, 2)
        ask = Ask((1, 2, 3), 7, stops=((9 % 4, 0, 0, 0),), tape=(5, 6, 7), rule=rule)
        house.ask(ask)
        house.step(((0, 5),))
        house.deliver(0)
        begun = house.text(0)
        tape = [100, 200, 3]
        self.assert_same(self.assert_keeps(house.fork, 0, tape), 1)
        spoil(tape)
        self.assert_same((house.text(1), house.word(1), house.delivered(1)), (begun, None, 0))
        self.assert_same((house.blocks_of(1), house.length_of(1)), (house.blocks_of(0), 5))
        self.assert_same(self.held(house)[:3], (3, 3, 2))
        self.assert_same(house.log()[1], ((1, 2, 3), 7, ask.stops, (100, 200, 3), rule, begun, None, 0))
        self.assertIs(house.log()[1][4], rule)
        house.step(((1, 2), (0, 60), (1, 60)))
        self.assert_same((house.text(0), house.word(0)), alone_told(ask))
        forked = Ask((1, 2, 3), 7, stops=ask.stops, tape=(100, 200, 3), rule=rule)
        self.assert_same((house.text(1), house.word(1)), alone_told(forked, begun))
        self.assert_same(house.deliver(1), house.text(1))

    def test_the_last_block_is_parted_when_one_of_them_goes_on(self):
        house = self.made((1, 2, 3), shape=(6, 4))
        house.step(((0, 2),))
        self.assert_same((house.fork(tape=(), ticket=0), self.held(house)), (1, (2, 0, 0, 0, 0, 0)))
        house.step(((1, 1),))
        self.assert_same((house.blocks_of(0), house.blocks_of(1), self.held(house)), ((0,), (1,), (1, 1, 0, 0, 0, 0)))
        house.step(((0, 1),))
        self.assert_same((house.blocks_of(0), house.length_of(0), house.reckoned), ((0,), 3, 4))

    def test_a_fork_with_no_rows(self):
        house = self.made((1, 2, 3))
        self.assert_same((house.fork(0, ()), house.blocks_of(1), house.going()), (1, (), (0, 1)))
        house.step(((1, 60), (0, 60)))
        self.assert_same((house.text(0), house.word(0)), (house.text(1), house.word(1)))

    def test_a_fork_of_a_fork(self):
        house = self.made((1, 2, 3))
        house.step(((0, 4),))
        self.assert_same((house.fork(0, (1, 2)), house.fork(1, (3,)), house.fork(0, ())), (1, 2, 3))
        begun = house.text(0)
        house.cancel(1)
        house.step(((2, 60), (3, 60), (0, 60)))
        self.assert_same((house.text(2), house.word(2)), alone_told(Ask((1, 2, 3), 9, tape=(3,)), begun))
        self.assert_same((house.text(3), house.text(1)), (house.text(0), begun))

    def test_other_requests_are_not_forked(self):
        house = self.made((1, 2, 3), (1,), (2,))
        house.step(((0, 2), (1, 60)))
        house.swap_out(0)
        house.cancel(2)
        for ticket in range(3):
            self.assert_does_nothing(house, None, house.fork, ticket, (1,))
        self.assert_same(house.ask(Ask((1,), 1)), 3)


class Cancels(AsideCase):
    def test_a_going_request(self):
        house = self.made((1, 2, 3), shape=(6, 2))
        house.step(((0, 5),))
        text = house.text(0)
        self.assert_same(house.cancel(ticket=0), True)
        self.assert_same((house.text(0), house.word(0)), (text, "cancelled"))
        self.assert_same((house.blocks_of(0), house.length_of(0)), ((), 0))
        self.assert_same((house.going(), self.held(house)), ((), (1, 1, 0, 0, 0, 0)))
        self.assert_does_nothing(house, False, house.cancel, 0)
        self.assert_does_nothing(house, (), house.step, ((0, 9),))

    def test_one_that_is_out(self):
        house = self.made((1, 2, 3))
        house.step(((0, 5),))
        house.swap_out(0)
        self.assert_same((house.cancel(0), house.word(0)), (True, "cancelled"))
        self.assert_same((house.is_out(0), house.swap_in(0)), (False, False))

    def test_one_with_a_word(self):
        house = self.made((1, 2, 3))
        house.step(((0, 60),))
        self.assert_does_nothing(house, False, house.cancel, 0)
        self.assert_same(house.word(0), "most")

    def test_one_with_no_rows(self):
        house = self.made((1, 2, 3))
        self.assert_same((house.cancel(0), house.word(0), house.text(0)), (True, "cancelled", ()))

    def test_others_go_on_with_what_they_share(self):
        house = self.made((1, 2, 3, 1), (1, 2, 3, 2))
        house.step(((0, 4), (1, 2)))
        house.fork(0, ())
        house.cancel(0)
        house.step(((1, 60), (2, 60)))
        self.assert_same((house.text(1), house.word(1)), alone_told(Ask((1, 2, 3, 2), 9)))
        self.assert_same((house.text(2), house.word(2)), alone_told(Ask((1, 2, 3, 1), 9)))


class DropOrder(AsideCase):
    def test_swapping_in_uses_and_puts_paths(self):
        house = House(Net(*ENDLESS), 9, 1)
        for prompt in ((1,), (2,), (3,)):
            house.ask(Ask(prompt, 9))
        house.step(((0, 1), (1, 1), (2, 1)))
        house.swap_out(0)
        self.assert_same(dropped(house), [(1,), "cancelled", (2,), (3,), "cancelled"])
        house.swap_in(0)
        self.assert_same(dropped(house), ["cancelled", (2,), (3,), (1,), "cancelled"])

    def test_within_a_block_nothing_is_used(self):
        house = House(Net(*ENDLESS), 9, 3)
        for prompt in ((1,) * 15, (2, 2, 2)):
            house.ask(Ask(prompt, 9))
        house.step(((0, 4), (1, 3)))
        for many in (0, 1):
            house.step(((0, many),))
            self.assert_same(dropped(house), ["cancelled", (1, 1, 1), (2, 2, 2), "cancelled"])
        house.swap_out(0)
        house.swap_in(0)
        house.step(((1, 2),))
        self.assert_same(dropped(house), ["cancelled", (2, 2, 2), (1, 1, 1), "cancelled"])


class MainPromise(Case):
    def test_whatever_is_done_in_between(self):
        for seed in range(40):
            source = random.Random(seed)
            parts = some_parts(source)
            house = House(Net(*parts), 30, 2)
            asks = [some_served(source, len(parts[1]), 5, 9) for _ in range(5)]
            begun = [()] * 5
            for ask in asks:
                house.ask(ask)
            while house.going():
                ticket = source.choice(house.going())
                name = source.choice(["step", "step", "step", "put_off", "swap_out", "swap_in", "fork"])
                if name == "step":
                    house.step([(ticket, source.randint(0, 9))])
                elif name != "fork":
                    getattr(house, name)(ticket)
                elif len(asks) < 15 and not house.is_out(ticket):
                    ask = asks[ticket]
                    asks.append(Ask(ask.prompt, ask.most, stops=ask.stops, tape=(seed, 5), rule=ask.rule))
                    begun.append(house.text(ticket))
                    house.fork(ticket, (seed, 5))
                if len(house.going()) > 4:
                    house.step([(source.choice(house.going()), 60)])
            found = [(house.text(ticket), house.word(ticket)) for ticket in range(len(asks))]
            self.assert_same(found, [alone(parts, *one) for one in zip(asks, begun)])


def alone_told(ask, begun=()):
    """What long_net(3) writes alone."""
    return alone(parts_of_net(random.Random(3), letters=4, width=2, layers=1), ask, begun)


def rows_behind(letters):
    return reckoned_rows(parts_of_net(random.Random(3), letters=4, width=2, layers=1), letters)
