"""[13] and [14]: houses, and how requests advance."""

import random

from servedalone.asks import Ask
from servedalone.errors import InvalidLetter, InvalidNumber, NoRequest
from servedalone.houses import House
from servedalone.nets import Net
from servedalone.plain import written
from servedalone.rules import Rule
from servedalone.stores import Store
from servedalone.trees import Tree
from tests.helpers import (
    COUNTING, EVEN, Case, alone, as_lists, dropped, parts_of_net, seen, some_ask, spoil, whole_state, wrong_numbers,
)
from tests.pairs import some_parts, some_served

ENDLESS = EVEN[:5] + (None,)


def advance(house, ticket, many=1):
    return house.step(((ticket, many),))


class HouseCase(Case):
    def assert_request(self, house, ticket, text, word, blocks, length):
        found = house.text(ticket), house.word(ticket), house.blocks_of(ticket), house.length_of(ticket)
        self.assert_same(found, (text, word, blocks, length))

    def assert_holders(self, house, *held):
        self.assert_same(tuple(house.store.holders(block) for block in range(house.store.many)), held)

    def assert_refused(self, house, error, values, call, *arguments, **named):
        """The call raises this error and changes nothing."""
        before = whole_state(house)
        self.assert_fails(error, values, call, *arguments, **named)
        self.assertEqual(whole_state(house), before)


class NewHouse(HouseCase):
    def test_the_example_of_the_document(self):
        net = Net(5, ((1,), (2,), (3,)), (1,), (), ((1,), (2,), (3,)), 0)
        house = House(net, 4, 2)
        found = house.ask(Ask((1,), 5)), house.step(((0, 9),)), house.deliver(0), house.word(0)
        self.assert_same(found, (0, (0,), (1, 2), "end"))

    def test_what_it_has(self):
        net = Net(*EVEN)
        for house in (House(net, 7, 3), House(size=3, many=7, net=net)):
            self.assertIs(house.net, net)
            self.assertIs(type(house.store), Store)
            self.assertIs(type(house.tree), Tree)
            self.assert_same((house.store.many, house.store.size, house.store.free, len(house.tree)), (7, 3, 7, 0))
            self.assert_same((house.reckoned, house.going(), house.log()), (0, (), ()))

    def test_the_tree_holds_blocks_of_the_store(self):
        house = House(Net(*EVEN), 3, 1)
        house.ask(Ask((1, 2), 1))
        advance(house, 0, 2)
        self.assert_same((house.store.free, list(house.tree)), (1, [(1,), (1, 2)]))
        self.assert_same((house.tree.drop(), house.store.free), (True, 2))

    def test_wrong_numbers(self):
        net = Net(*EVEN)
        for number in wrong_numbers(1, 60):
            self.assert_fails(InvalidNumber, {"number": number}, House, net, number, 2)
            self.assert_fails(InvalidNumber, {"number": number}, House, net, number, "no size")
        for number in wrong_numbers(1, 8):
            self.assert_fails(InvalidNumber, {"number": number}, House, net, many=3, size=number)
        for many, size in ((1, 1), (60, 8)):
            self.assert_same(House(net, many, size).store.free, many)

    def test_two_houses_with_one_net(self):
        net = Net(*EVEN)
        houses = House(net, 3, 1), House(net, 3, 1)
        houses[0].ask(Ask((1,), 2))
        advance(houses[0], 0, 2)
        self.assertEqual(seen(houses[1]), seen(House(net, 3, 1)))


class Asking(HouseCase):
    def test_tickets(self):
        house = House(Net(*EVEN), 3, 1)
        self.assert_same([house.ask(Ask((1,), 2)) for _ in range(30)], list(range(30)))
        self.assert_same(house.going(), tuple(range(30)))
        self.assert_same(house.ask(ask=Ask((1,), 2)), 30)

    def test_a_new_request(self):
        house = House(Net(*EVEN), 3, 1)
        self.assert_keeps(house.ask, Ask((1, 2), 2, stops=((1,),), tape=(3,), rule=Rule(0, ((0,) * 4,))))
        self.assert_request(house, 0, (), None, (), 0)
        self.assert_same((house.is_out(0), house.delivered(0), house.sendable(0)), (False, 0, ()))
        self.assert_holders(house, 0, 0, 0)

    def test_the_names_of_the_arguments(self):
        house = House(Net(*EVEN), 3, 1)
        house.ask(Ask((1, 2), 9))
        house.step(plan=[[0, 2]])
        found = house.text(ticket=0), house.word(ticket=0), house.blocks_of(ticket=0), house.length_of(ticket=0)
        self.assert_same(found, ((3,), None, (0, 1), 2))

    def test_what_was_passed_may_be_changed_later(self):
        house = House(Net(*ENDLESS), 9, 2)
        prompt, stops, tape, plan = [1, 2], [[3, 0]], [2, 3, 0], [[0, 4]]
        house.ask(Ask(prompt, 9, stops=stops, tape=tape))
        spoil([prompt, stops, tape])
        self.assert_keeps(house.step, plan)
        spoil(plan)
        advance(house, 0, 60)
        wanted = written(house.net, Ask((1, 2), 9, stops=((3, 0),), tape=(2, 3, 0)))
        self.assert_same((house.text(0), house.word(0)), wanted)

    def test_wrong_letters(self):
        house = House(Net(*EVEN), 3, 1)
        house.ask(Ask((1,), 2))
        for letter in wrong_numbers(0, 3):
            for ask in (Ask((letter,), 2), Ask((0, letter, 9), 2), Ask((0,), 2, stops=((1,), (2, letter), (9,)))):
                self.assert_refused(house, InvalidLetter, {"letter": letter}, house.ask, ask)
        self.assert_refused(house, InvalidLetter, {"letter": 5}, house.ask, Ask((1, 5, 6), 2, stops=((7,),)))
        self.assert_refused(house, InvalidLetter, {"letter": 7}, house.ask, Ask((1,), 2, stops=((0, 7), (8,))))
        self.assert_same(house.ask(Ask((1,), 2)), 1)


class Tickets(HouseCase):
    def test_what_is_no_ticket(self):
        house = House(Net(*EVEN), 5, 2)
        for ask in (Ask((1, 2), 9), Ask((1, 2), 1), Ask((1, 2), 9)):
            house.ask(ask)
        house.step(((0, 3), (1, 3), (2, 2)))
        house.swap_out(2)
        calls = (
            house.word, house.text, house.blocks_of, house.length_of, house.put_off, house.swap_out, house.swap_in,
            house.is_out, house.cancel, house.sendable, house.deliver, house.delivered,
            lambda ticket: house.fork(ticket, (1,)), lambda ticket: house.guess(ticket, (9, None)),
            lambda ticket: house.step(((0, 1), (ticket, 1))), lambda ticket: house.step([[ticket, None]]),
        )
        before = whole_state(house)
        for call in calls:
            for ticket in wrong_numbers(0, 2):
                self.assert_fails(NoRequest, {"ticket": ticket}, call, ticket)
        self.assertEqual(whole_state(house), before)
        self.assert_same(house.ask(Ask((1,), 1)), 3)

    def test_a_house_without_requests(self):
        house = House(Net(*EVEN), 5, 2)
        for ticket in (0, -1, 1):
            self.assert_fails(NoRequest, {"ticket": ticket}, house.text, ticket)
            self.assert_fails(NoRequest, {"ticket": ticket}, house.deliver, ticket)


class Plans(HouseCase):
    def made(self):
        house = House(Net(*EVEN), 9, 2)
        for _ in range(3):
            house.ask(Ask((1, 2), 2))
        return house

    def test_no_plan(self):
        house = self.made()
        before = whole_state(house)
        for plan in ((), [], ((0, 0), (1, 0)), [[2, 0]]):
            self.assert_same(house.step(plan), ())
        self.assertEqual(whole_state(house), before)

    def test_the_first_unknown_ticket_before_all_numbers(self):
        house = self.made()
        self.assert_refused(house, NoRequest, {"ticket": 3}, house.step, ((0, -1), (3, 1), (4, 1)))
        self.assert_refused(house, NoRequest, {"ticket": "a"}, house.step, ((0, 5), (1, 61), ("a", 61), (3, 1)))

    def test_wrong_numbers(self):
        house = self.made()
        for number in wrong_numbers(0, 60):
            self.assert_refused(house, InvalidNumber, {"number": number}, house.step, ((0, 5), (1, number), (2, 99)))
            self.assert_refused(house, InvalidNumber, {"number": number}, house.step, [[0, number]])
        self.assert_same(house.step(((0, 0), (1, 60))), (1,))

    def test_tickets_of_those_that_ended_in_the_order_of_their_ends(self):
        house = self.made()
        self.assert_same(house.step(((2, 3), (0, 1))), (2,))
        self.assert_same(house.step(((1, 1), (0, 60), (2, 60), (1, 60), (0, 5))), (0, 1))
        self.assert_same(house.step(((1, 1), (0, 1), (2, 1))), ())

    def test_many_advances_after_the_end_are_none(self):
        house = self.made()
        self.assert_same(advance(house, 0, 60), (0,))
        self.assert_same((house.text(0), house.word(0), house.reckoned), ((3, 3), "most", 3))

    def test_a_ticket_that_stands_in_a_plan_again(self):
        house = self.made()
        self.assert_same(house.step(((0, 1), (1, 1), (0, 1))), ())
        self.assert_same((house.length_of(0), house.length_of(1)), (2, 1))

    def test_a_plan_parted_otherwise_gives_the_same_house(self):
        for seed in range(60):
            source = random.Random(seed)
            parts = some_parts(source)
            shape = source.choice([(3, 2), (6, 1), (8, 3), (60, 2)])
            asks = [some_served(source, len(parts[1]), 6) for _ in range(4)]
            plan = [(source.randrange(4), source.randint(0, 12)) for _ in range(12)]
            houses = [House(Net(*parts), *shape) for _ in range(3)]
            for house in houses:
                for ask in asks:
                    house.ask(ask)
            whole = houses[0].step(plan)
            parted, single = (), ()
            for ticket, many in plan:
                first = source.randint(0, many)
                parted += houses[1].step(((ticket, first), (ticket, many - first)))
                for _ in range(many):
                    single += houses[2].step([[ticket, 1]])
            self.assert_same((parted, single), (whole, whole))
            states = [whole_state(house) for house in houses]
            self.assertEqual(states[1], states[0])
            self.assertEqual(states[2], states[0])


class Advances(HouseCase):
    def test_row_by_row(self):
        house = House(Net(*COUNTING), 9, 2)
        house.ask(Ask((3, 1, 1), 2))
        self.assert_same(advance(house, 0), ())
        self.assert_request(house, 0, (), None, (0,), 1)
        self.assert_holders(house, 1, 0, 0, 0, 0, 0, 0, 0, 0)
        self.assert_same((advance(house, 0), list(house.tree)), ((), [(3, 1)]))
        self.assert_request(house, 0, (), None, (0,), 2)
        self.assert_holders(house, 2, 0, 0, 0, 0, 0, 0, 0, 0)
        self.assert_same(advance(house, 0), ())
        self.assert_request(house, 0, (2,), None, (0, 1), 3)
        self.assert_same(house.reckoned, 3)
        self.assert_same(advance(house, 0), (0,))
        self.assert_request(house, 0, (2, 3), "most", (), 0)
        self.assert_same((house.reckoned, list(house.tree)), (4, [(3, 1), (3, 1, 1, 2)]))
        self.assert_holders(house, 1, 1, 0, 0, 0, 0, 0, 0, 0)

    def test_the_rows_are_those_of_the_letters(self):
        parts = parts_of_net(random.Random(8), letters=3, layers=2)
        house = House(Net(*parts), 9, 3)
        house.ask(Ask((2, 0, 1), 4))
        advance(house, 0, 5)
        letters = (2, 0, 1) + house.text(0)
        rows = ()
        for letter in letters[:5]:
            rows += (house.net.row(rows, letter),)
        self.assert_same(house.store.rows(0) + house.store.rows(1), rows)

    def test_an_unfinished_block_goes_with_the_word(self):
        house = House(Net(*COUNTING), 9, 4)
        house.ask(Ask((1,), 9))
        advance(house, 0, 2)
        self.assert_holders(house, 1, 0, 0, 0, 0, 0, 0, 0, 0)
        advance(house, 0, 1)
        self.assert_request(house, 0, (2, 3), "end", (), 0)
        self.assert_same((house.store.free, house.reckoned, len(house.tree)), (9, 3, 0))

    def test_known_blocks_are_taken_over(self):
        house = House(Net(*EVEN), 9, 2)
        for most in (1, 5):
            house.ask(Ask((1, 2, 3, 1, 2), most))
        advance(house, 0, 60)
        self.assert_same((house.reckoned, house.store.free), (5, 7))
        advance(house, 1)
        self.assert_request(house, 1, (), None, (0,), 2)
        advance(house, 1)
        self.assert_request(house, 1, (), None, (0, 1), 4)
        self.assert_holders(house, 2, 2, 0, 0, 0, 0, 0, 0, 0)
        self.assert_same(house.reckoned, 5)
        advance(house, 1)
        self.assert_request(house, 1, (3,), None, (0, 1, 2), 5)
        self.assert_same(house.reckoned, 6)

    def test_a_letter_is_written_behind_a_block_that_was_taken_over(self):
        house = House(Net(*COUNTING), 9, 2)
        for most in (1, 5):
            house.ask(Ask((0, 1), most))
        advance(house, 0, 60)
        self.assert_same(advance(house, 1), ())
        self.assert_request(house, 1, (2,), None, (0,), 2)
        house.ask(Ask((0, 1), 1))
        self.assert_same(advance(house, 2), (2,))
        self.assert_request(house, 2, (2,), "most", (), 0)
        self.assert_same(house.reckoned, 2)

    def test_no_block_is_taken_over_that_goes_beyond_the_letters(self):
        house = House(Net(*COUNTING), 9, 4)
        house.ask(Ask((0, 1, 2, 3), 1, rule=Rule(0, ((None, 0, 0, 0),))))
        advance(house, 0, 60)
        self.assert_same(list(house.tree), [(0, 1, 2, 3)])
        house.ask(Ask((0, 1, 2), 5))
        advance(house, 1)
        self.assert_request(house, 1, (), None, (1,), 1)

    def test_blocks_of_other_letters_are_not_taken_over(self):
        house = House(Net(*EVEN), 9, 2)
        for prompt in ((1, 2, 3, 1), (1, 2, 3, 2), (2, 1, 3, 1)):
            house.ask(Ask(prompt, 2))
            advance(house, len(house.log()) - 1, 3)
        self.assert_same([house.blocks_of(ticket) for ticket in range(3)], [(0, 1), (0, 2), (3, 4)])
        self.assert_same([house.length_of(ticket) for ticket in range(3)], [3, 4, 3])

    def test_equal_blocks_that_were_read_side_by_side_are_exchanged(self):
        house = House(Net(*EVEN), 9, 2)
        for _ in range(2):
            house.ask(Ask((1, 2, 3), 9))
        house.step(((0, 1), (1, 1)))
        self.assert_same((house.blocks_of(0), house.blocks_of(1)), ((0,), (1,)))
        house.step(((1, 1),))
        self.assert_holders(house, 1, 2, 0, 0, 0, 0, 0, 0, 0)
        house.step(((0, 1),))
        self.assert_same((house.blocks_of(0), house.blocks_of(1)), ((1,), (1,)))
        self.assert_holders(house, 0, 3, 0, 0, 0, 0, 0, 0, 0)
        self.assert_same(house.reckoned, 4)

    def test_the_lowest_free_block_comes_next(self):
        house = House(Net(*ENDLESS), 4, 1)
        for prompt in ((1,), (2,)):
            house.ask(Ask(prompt, 9))
        house.step(((0, 1), (1, 2)))
        house.cancel(0)
        house.tree.drop()
        self.assert_holders(house, 0, 2, 2, 0)
        advance(house, 1, 2)
        self.assert_same(house.blocks_of(1), (1, 2, 0, 3))


class Words(HouseCase):
    def served(self, parts, ask):
        house = House(Net(*parts), 60, 2)
        house.ask(ask)
        advance(house, 0, 60)
        self.assert_same((house.blocks_of(0), house.length_of(0), house.going(), house.is_out(0)), ((), 0, (), False))
        return house.text(0), house.word(0)

    def test_each_word(self):
        self.assert_same(self.served(COUNTING, Ask((1,), 9)), ((2, 3), "end"))
        self.assert_same(self.served(COUNTING, Ask((1,), 2)), ((2, 3), "most"))
        self.assert_same(self.served(COUNTING, Ask((1,), 9, stops=((3,), (2, 3)))), ((), "stop"))
        self.assert_same(self.served(COUNTING, Ask((0,), 3, stops=((2, 3),))), ((1,), "stop"))
        self.assert_same(self.served(EVEN, Ask((1,), 9, rule=Rule(0, ((1,) * 4, (None,) * 4)))), ((3,), "stuck"))
        self.assert_same(self.served(EVEN, Ask((2,), 30, tape=(3, 1, 0))), ((2, 1), "end"))

    def test_going_and_ended(self):
        house = House(Net(*COUNTING), 9, 2)
        for most in (1, 9, 2):
            house.ask(Ask((0,), most))
        self.assert_same(house.going(), (0, 1, 2))
        house.step(((0, 9),))
        self.assert_same((house.going(), house.word(0)), ((1, 2), "most"))
        house.step(((2, 9),))
        self.assert_same(house.going(), (1,))
        house.step(((1, 9),))
        self.assert_same((house.going(), [house.word(ticket) for ticket in range(3)]), ((), ["most", "end", "most"]))


class NoMoreRoom(HouseCase):
    def test_an_advance_that_does_nothing_more(self):
        house = House(Net(*ENDLESS), 1, 1)
        house.ask(Ask((1, 2), 9))
        advance(house, 0)
        before = whole_state(house)
        self.assert_same(advance(house, 0, 60), ())
        self.assertEqual(whole_state(house), before)
        self.assert_request(house, 0, (), None, (0,), 1)
        self.assert_same(house.reckoned, 1)

    def test_a_last_block_that_is_full(self):
        house = House(Net(*ENDLESS), 2, 3)
        house.ask(Ask((1,), 30))
        advance(house, 0, 60)
        self.assert_request(house, 0, (3,) * 6, None, (0, 1), 6)
        self.assert_same(house.reckoned, 6)

    def test_it_goes_on_when_there_is_room_again(self):
        house = House(Net(*ENDLESS), 2, 1)
        for prompt in ((1, 2), (2, 2)):
            house.ask(Ask(prompt, 1))
        house.step(((0, 1), (1, 1)))
        self.assert_same(house.step(((0, 5), (1, 5))), ())
        house.cancel(1)
        # The cancelled request's block was in the tree, from which it is dropped now.
        self.assert_same(list(house.tree), [(1,), (2,)])
        self.assert_same(house.step(((0, 1),)), (0,))
        self.assert_same((list(house.tree), house.text(0), house.reckoned), ([(1,), (1, 2)], (3,), 3))

    def test_paths_are_dropped_in_the_order_of_their_last_uses(self):
        house = House(Net(*ENDLESS), 4, 1)
        for letter in (3, 1, 2):
            house.ask(Ask((letter,), 1))
        house.step(((0, 1), (1, 1), (2, 1)))
        self.assert_same(list(house.tree), [(1,), (2,), (3,)])
        house.ask(Ask((3,), 1))
        house.step(((3, 1),))
        house.ask(Ask((0, 0, 0, 0), 1))
        gone = []
        for _ in range(4):
            before = list(house.tree)
            advance(house, 4)
            gone.append([path for path in before if path not in list(house.tree)])
        self.assert_same(gone, [[], [(1,)], [(2,)], [(3,)]])

    def test_an_advance_that_finds_no_room_uses_what_is_known(self):
        house = House(Net(*ENDLESS), 3, 1)
        for prompt in ((1, 0), (2,), (3,)):
            house.ask(Ask(prompt, 9))
        house.step(((0, 1), (1, 1), (2, 1)))
        self.assert_same(dropped(house), ["cancelled", (1,), (2,), (3,), "cancelled"])
        advance(house, 0)
        self.assert_request(house, 0, (), None, (0,), 1)
        self.assert_same(dropped(house), ["cancelled", (2,), (3,), (1,), "cancelled"])

    def test_taking_over_is_a_use(self):
        house = House(Net(*ENDLESS), 3, 1)
        for prompt in ((1,), (2,), (1,)):
            house.ask(Ask(prompt, 1))
        house.step(((0, 1), (1, 1)))
        self.assert_same(dropped(house), [(1,), (2,), "cancelled", "cancelled"])
        advance(house, 2)
        self.assert_same((house.reckoned, dropped(house)), (2, [(2,), (1,), "cancelled", "cancelled"]))

    def test_blocks_that_others_hold_are_never_dropped(self):
        house = House(Net(*ENDLESS), 3, 1)
        for prompt in ((1, 1), (2, 2), (3, 3)):
            house.ask(Ask(prompt, 9))
        house.step(((0, 1), (1, 1), (2, 1)))
        before = whole_state(house)
        self.assert_same(house.step(((0, 9), (1, 9), (2, 9))), ())
        self.assertEqual(whole_state(house), before)
        house.cancel(1)
        advance(house, 2, 9)
        self.assert_same(list(house.tree), [(1,), (3,), (3, 3)])
        self.assert_same((house.blocks_of(0), house.blocks_of(2)), ((0,), (2, 1)))

    def test_a_shared_last_block_needs_a_free_one(self):
        house = House(Net(*ENDLESS), 1, 4)
        house.ask(Ask((1,), 9))
        advance(house, 0)
        house.fork(0, (1,))
        self.assert_same((house.step(((0, 9), (1, 9))), house.reckoned), ((), 1))
        house.cancel(0)
        advance(house, 1)
        self.assert_request(house, 1, (3, 1), None, (0,), 2)


class MainPromise(Case):
    def test_any_plans_in_any_houses(self):
        words = []
        for seed in range(150):
            source = random.Random(seed)
            parts = some_parts(source)
            asks = [some_served(source, len(parts[1]), source.choice([1, 5, 12])) for _ in range(source.randint(1, 5))]
            longest = max(len(ask.prompt) + ask.most - 1 for ask in asks)
            size = source.randint(1, 8)
            least = -(-longest // size)
            house = House(Net(*parts), source.randint(min(least, 60), 60), size)
            for ask in asks:
                house.ask(ask)
            wanted = [alone(parts, ask) for ask in asks]
            self.step_to_the_end(source, house, wanted)
            found = [(house.text(ticket), house.word(ticket)) for ticket in range(len(asks))]
            self.assert_same(found, wanted)
            words.extend(word for _, word in found)
        for word in ("end", "stop", "most", "stuck"):
            self.assertGreater(words.count(word), 10, word)

    def step_to_the_end(self, source, house, wanted):
        ended = ()
        while house.going():
            plan = [(source.randrange(len(wanted)), source.choice([0, 1, 2, 3, 7, 60])) for _ in range(6)]
            ended += house.step(plan)
            for ticket in house.going():
                begun = house.text(ticket)
                self.assertEqual(begun[:len(wanted[ticket][0])], wanted[ticket][0][:len(begun)])
            if source.random() < 0.3:
                # Where the requests have all blocks together, one of them goes on alone.
                for ticket in house.going()[1:]:
                    house.put_off(ticket)
                ended += house.step([(ticket, 60) for ticket in house.going()[:1]])
        self.assert_same(sorted(ended), list(range(len(wanted))))

    def test_prompts_of_20_letters_and_sixty_blocks_of_eight(self):
        for seed in range(3):
            source = random.Random(seed)
            parts = parts_of_net(source, letters=12, width=2, layers=1)
            house = House(Net(*parts), 60, 8)
            asks = [some_ask(source, 12, tape=(seed, 77)) for _ in range(4)]
            for ask in asks:
                house.ask(ask)
            house.step([[ticket, 60] for ticket in range(4)])
            found = [(house.text(ticket), house.word(ticket)) for ticket in range(4)]
            self.assert_same(found, [alone(parts, ask) for ask in asks])

    def test_thirty_requests_of_all_kinds_at_once(self):
        source = random.Random(5)
        parts = parts_of_net(source, letters=3, width=2, layers=1, end=2)
        house = House(Net(*parts), 60, 2)
        asks = [some_served(source, 3, 5, 6) for _ in range(30)]
        for ask in asks:
            house.ask(ask)
        while house.going():
            house.step([(source.randrange(30), source.randint(1, 9)) for _ in range(40)])
        found = [(house.text(ticket), house.word(ticket)) for ticket in range(30)]
        self.assert_same(found, [alone(parts, ask) for ask in asks])

    def test_one_block_of_one_row(self):
        for seed in range(20):
            source = random.Random(seed)
            parts = some_parts(source)
            house = House(Net(*parts), 1, 1)
            asks = [some_ask(source, len(parts[1])) for _ in range(3)]
            asks = [Ask(ask.prompt[:1], 1, stops=ask.stops, tape=ask.tape, rule=ask.rule) for ask in asks]
            for ask in asks:
                house.ask(ask)
            self.assert_same(house.step(((1, 60), (0, 60), (2, 60))), (1, 0, 2))
            found = [(house.text(ticket), house.word(ticket)) for ticket in range(3)]
            self.assert_same(found, [alone(parts, ask) for ask in asks])

    def test_lists_give_the_same(self):
        parts = parts_of_net(random.Random(4), letters=4, layers=1, end=1)
        listed = as_lists(parts[:5])
        houses = House(Net(*parts), 8, 2), House(Net(*listed, 1), 8, 2)
        for seed in range(5):
            ask = some_served(random.Random(seed), 4, 4, 9)
            houses[0].ask(ask)
            stops, tape = as_lists(ask.stops), list(ask.tape)
            houses[1].ask(Ask(list(ask.prompt), ask.most, stops=stops, tape=tape, rule=ask.rule))
        for house, plan in zip(houses, (((0, 9), (3, 20), (2, 60)), [[0, 9], [3, 20], [2, 60]])):
            house.step(plan)
        self.assertEqual(whole_state(houses[0]), whole_state(houses[1]))
