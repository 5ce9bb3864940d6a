"""[16]: guesses, and what a lesser net guesses."""

import random

from servedalone.asks import Ask
from servedalone.errors import InvalidLetter, InvalidNumber, NoRequest
from servedalone.guesses import lesser_guesses
from servedalone.houses import House
from servedalone.nets import Net
from servedalone.rules import Rule
from tests.helpers import (
    COUNTING, EVEN, Case, alone, as_lists, chosen, parts_of_net, reckoned_rows, spoil, whole_state, wrong_numbers,
)
from tests.pairs import Pair, some_parts, some_served

ENDLESS = EVEN[:5] + (None,)
# Behind letter a this one chooses a + 1, and 0 behind 3, which is no end.
ROUND = COUNTING[:5] + (None,)


def ready(parts, ask, shape=(20, 2)):
    """A house with one request that lacks the last of its letters only."""
    house = House(Net(*parts), *shape)
    house.ask(ask)
    house.step(((0, len(ask.prompt) - 1),))
    return house


class Guess(Case):
    def assert_guess(self, house, guesses, made, text, word, length, reckoned):
        self.assert_same(self.assert_keeps(house.guess, 0, guesses), made)
        found = house.text(0), house.word(0), house.length_of(0), house.reckoned
        self.assert_same(found, (text, word, length, reckoned))

    def assert_does_nothing(self, house, ticket, guesses):
        before = whole_state(house)
        self.assert_same(house.guess(ticket, guesses), 0)
        self.assertEqual(whole_state(house), before)

    def test_right_letters(self):
        self.assert_guess(ready(ROUND, Ask((0,), 30)), (1, 2, 3, 0), 5, (1, 2, 3, 0, 1), None, 5, 5)
        text = (1, 2, 3, 0, 1, 2, 3, 0, 1)
        self.assert_guess(ready(ROUND, Ask((0,), 30)), list(text[:8]), 9, text, None, 9, 9)

    def test_a_wrong_one_at_the_end(self):
        self.assert_guess(ready(ROUND, Ask((0,), 30)), (1, 2, 1), 3, (1, 2, 3), None, 3, 4)

    def test_a_wrong_one_in_the_middle(self):
        self.assert_guess(ready(ROUND, Ask((0,), 30)), (1, 3, 3, 0), 2, (1, 2), None, 2, 5)

    def test_a_wrong_one_at_first(self):
        self.assert_guess(ready(ROUND, Ask((0,), 30)), (2, 3), 1, (1,), None, 1, 3)

    def test_none(self):
        self.assert_guess(ready(ROUND, Ask((0,), 30)), (), 1, (1,), None, 1, 1)
        self.assert_guess(ready(ROUND, Ask((0, 1, 2), 30)), [], 1, (3,), None, 3, 3)

    def test_one(self):
        self.assert_guess(ready(ROUND, Ask((0,), 30)), (1,), 2, (1, 2), None, 2, 2)

    def test_more_than_the_request_may_write(self):
        self.assert_guess(ready(ROUND, Ask((0,), 3)), (1, 2, 3, 0, 1), 3, (1, 2, 3), "most", 0, 6)
        self.assert_guess(ready(ROUND, Ask((0,), 1)), (1, 2), 1, (1,), "most", 0, 3)

    def test_the_end_is_a_choice(self):
        self.assert_guess(ready(COUNTING, Ask((1,), 9)), (2, 3, 0, 1), 3, (2, 3), "end", 0, 5)
        self.assert_guess(ready(COUNTING, Ask((3,), 9)), (0,), 1, (), "end", 0, 2)

    def test_stuck_is_a_choice(self):
        rule = Rule(0, ((1,) * 4, (None,) * 4))
        self.assert_guess(ready(ROUND, Ask((0,), 9, rule=rule)), (1, 2, 3), 2, (1,), "stuck", 0, 4)

    def test_a_stop_is_taken_off(self):
        self.assert_guess(ready(ROUND, Ask((0,), 9, stops=((2, 3),))), (1, 2, 3, 0), 3, (1,), "stop", 0, 5)

    def test_a_tape_and_a_rule(self):
        ask = Ask((0,), 9, tape=(3, 1), rule=Rule(0, ((0, 0, None, 0),)))
        # The weights are 1, 2, 4 for the letters 0, 1, 3, and their sum is 7.
        self.assert_guess(ready(ENDLESS, ask), (3, 1, 3, 3), 4, (3, 1, 3, 1), None, 4, 5)

    def test_what_comes_into_the_table_and_the_tree(self):
        parts = parts_of_net(random.Random(12), letters=3, width=2, layers=2)
        text = alone(parts, Ask((0, 1, 2), 6))[0]
        house = ready(parts, Ask((0, 1, 2), 6), (9, 2))
        self.assert_same(house.guess(guesses=text[:4], ticket=0), 5)
        letters = (0, 1, 2) + text
        self.assert_same(list(house.tree), [letters[:many] for many in (2, 4, 6)])
        self.assert_same((house.blocks_of(0), house.length_of(0)), ((0, 1, 2, 3), 7))
        rows = tuple(row for block in house.blocks_of(0) for row in house.store.rows(block))
        self.assert_same(rows, reckoned_rows(parts, letters[:7]))
        self.assert_same(house.step(((0, 1),)), (0,))
        self.assert_same((house.text(0), house.word(0)), (text, "most"))

    def test_rows_of_wrong_guesses_are_in_no_block(self):
        house = ready(ROUND, Ask((0, 1, 2), 9), (9, 2))
        house.guess(0, (3, 1, 1, 1, 1))
        self.assert_same((list(house.tree), house.length_of(0)), ([(0, 1), (0, 1, 2, 3)], 4))

    def test_a_block_that_is_in_the_tree_takes_the_place(self):
        house = House(Net(*ROUND), 9, 2)
        for _ in range(2):
            house.ask(Ask((0,), 9))
        house.step(((0, 2),))
        house.guess(1, (1,))
        self.assert_same((house.blocks_of(0), house.blocks_of(1), house.store.holders(0)), ((0,), (0,), 3))

    def test_requests_that_lack_more(self):
        house = House(Net(*ROUND), 9, 2)
        house.ask(Ask((0, 1, 2), 9))
        self.assert_does_nothing(house, 0, (3,))
        house.step(((0, 1),))
        self.assert_does_nothing(house, 0, (3,))
        house.step(((0, 3),))
        house.put_off(0)
        self.assert_does_nothing(house, 0, ())
        house.step(((0, 1),))
        self.assert_does_nothing(house, 0, ())
        house.step(((0, 1),))
        self.assert_same(house.guess(0, ()), 1)

    def test_requests_that_are_out_or_have_a_word(self):
        house = House(Net(*ROUND), 9, 2)
        for most in (9, 1, 9, 9):
            house.ask(Ask((0,), most))
        house.step(((0, 1), (1, 1)))
        house.swap_out(0)
        house.swap_out(2)
        house.cancel(3)
        for ticket in range(4):
            self.assert_does_nothing(house, ticket, (1,))
        house.swap_in(0)
        self.assert_same(house.guess(0, (2,)), 2)

    def test_no_room_on_the_way(self):
        self.assert_guess(ready(ROUND, Ask((0,), 30), (3, 1)), (1, 2, 3, 0), 3, (1, 2, 3), None, 3, 5)
        self.assert_guess(ready(ROUND, Ask((0,), 30), (1, 2)), (1, 2, 3, 0), 2, (1, 2), None, 2, 5)

    def test_no_room_at_all(self):
        house = ready(ROUND, Ask((0, 1, 2), 30), (2, 1))
        self.assert_guess(house, (3, 0), 0, (), None, 2, 5)
        self.assert_guess(house, (), 0, (), None, 2, 6)

    def test_room_is_made_by_dropping(self):
        house = House(Net(*ROUND), 3, 1)
        house.ask(Ask((3,), 1))
        house.step(((0, 1),))
        house.ask(Ask((0,), 9))
        self.assert_same((house.guess(1, (1, 2, 3)), house.text(1)), (3, (1, 2, 3)))
        self.assert_same((list(house.tree), house.reckoned), ([(0,), (0, 1), (0, 1, 2)], 5))

    def test_wrong_letters(self):
        house = ready(ROUND, Ask((0,), 9))
        before = whole_state(house)
        for letter in wrong_numbers(0, 3):
            for guesses in ((letter,), (1, 2, letter, 9), [letter, 1]):
                self.assert_fails(InvalidLetter, {"letter": letter}, house.guess, 0, guesses)
        self.assert_fails(NoRequest, {"ticket": 1}, house.guess, 1, (9,))
        self.assertEqual(whole_state(house), before)

    def test_wrong_letters_for_requests_for_which_it_does_nothing(self):
        house = House(Net(*ROUND), 9, 2)
        for _ in range(3):
            house.ask(Ask((0, 1), 1))
        house.step(((0, 60),))
        house.swap_out(1)
        before = whole_state(house)
        for ticket in range(3):
            self.assert_fails(InvalidLetter, {"letter": 4}, house.guess, ticket, (1, 4))
        self.assertEqual(whole_state(house), before)

    def test_a_list_of_guesses_may_be_changed_later(self):
        house = ready(ROUND, Ask((0,), 9))
        guesses = [1, 2]
        house.guess(0, guesses)
        spoil(guesses)
        self.assert_same(house.text(0), (1, 2, 3))

    def test_any_guesses_give_the_text_of_the_net_alone(self):
        for seed in range(80):
            source = random.Random(seed)
            parts = some_parts(source)
            ask = some_served(source, len(parts[1]), 5, 12)
            wanted = alone(parts, ask)
            house = House(Net(*parts), source.randint(16, 30), source.randint(1, 3))
            house.ask(ask)
            while house.word(0) is None:
                begun = len(house.text(0))
                right = (wanted[0] + (0,) * 40)[begun:begun + source.randint(0, 8)]
                wrong = [source.randrange(len(parts[1])) for _ in range(source.randint(0, 2))]
                made = house.guess(0, (list(right) + wrong)[:8])
                if made == 0:
                    house.step(((0, source.randint(1, 5)),))
            self.assert_same((house.text(0), house.word(0)), wanted)


class LesserGuesses(Case):
    def wanted(self, parts, ask, text, many):
        """What the lesser net guesses, from the document's words."""
        guesses = ()
        while len(guesses) < many:
            weights = reckoned_rows(parts, ask.prompt + text + guesses)[-1][1]
            choice = chosen(weights, text + guesses, ask.tape, ask.rule)
            if choice is None or choice == parts[-1]:
                break
            guesses += (choice,)
        return guesses

    def test_up_to_many(self):
        house = ready(ENDLESS, Ask((0,), 2))
        for many in range(1, 9):
            found = self.assert_keeps(lesser_guesses, house, 0, Net(*ROUND), many)
            self.assert_same(found, (1, 2, 3, 0, 1, 2, 3, 0)[:many])

    def test_the_end_of_the_lesser_net(self):
        house = ready(ENDLESS, Ask((0,), 9))
        self.assert_same(lesser_guesses(many=8, lesser=Net(*COUNTING), ticket=0, house=house), (1, 2, 3))
        self.assert_same(lesser_guesses(house, 0, Net(*COUNTING[:5], 1), 8), ())
        # The house's own end is a letter like others for the lesser net.
        self.assert_same(lesser_guesses(ready(COUNTING, Ask((0,), 9)), 0, Net(*ROUND), 5), (1, 2, 3, 0, 1))

    def test_rules_and_tapes_of_the_request(self):
        house = ready(ENDLESS, Ask((0,), 9, rule=Rule(0, ((None, 1, 1, 1), (None, None, 2, None), (None,) * 4))))
        self.assert_same(lesser_guesses(house, 0, Net(*ROUND), 8), (1, 2))
        house = ready(ENDLESS, Ask((0,), 9, tape=(3, 1, 0)))
        self.assert_same(lesser_guesses(house, 0, Net(*EVEN[:5], 3), 4), (2, 1, 0, 2))

    def test_behind_the_text(self):
        house = ready(ENDLESS, Ask((0,), 9))
        house.step(((0, 2),))
        self.assert_same((house.text(0), lesser_guesses(house, 0, Net(*ROUND), 2)), ((3, 3), (0, 1)))

    def test_requests_of_other_kinds(self):
        house = House(Net(*ENDLESS), 9, 2)
        for most in (9, 1, 9, 9):
            house.ask(Ask((0, 1), most))
        house.step(((0, 3), (1, 60)))
        house.swap_out(0)
        house.cancel(2)
        lesser = Net(*ROUND)
        before = whole_state(house)
        # One that is out, and one that lacks many letters, are going; those with a word are not.
        found = [lesser_guesses(house, ticket, lesser, 2) for ticket in range(4)]
        self.assert_same(found, [(0, 1), (), (), (2, 3)])
        self.assertEqual(whole_state(house), before)

    def test_errors(self):
        house = ready(ENDLESS, Ask((0,), 1))
        house.ask(Ask((0,), 1))
        house.step(((0, 60),))
        before = whole_state(house)
        lesser = Net(*ROUND)
        for ticket in wrong_numbers(0, 1):
            self.assert_fails(NoRequest, {"ticket": ticket}, lesser_guesses, house, ticket, lesser, 0)
        for number in wrong_numbers(1, 8):
            self.assert_fails(InvalidNumber, {"number": number}, lesser_guesses, house, 0, lesser, number)
            self.assert_fails(InvalidNumber, {"number": number}, lesser_guesses, house, 1, lesser, number)
        self.assertEqual(whole_state(house), before)

    def test_handed_to_guess(self):
        made = []
        for seed in range(60):
            pair = Pair(self, seed, shape=(40, 1 + seed % 4))
            source = pair.source
            parts = parts_of_net(source, letters=pair.letters, width=1, layers=1, end=source.randrange(pair.letters))
            lessers = [(parts, Net(*parts)), (pair.parts, pair.net)]
            for _ in range(3):
                pair.do("ask", some_served(source, pair.letters, 5))
            for _ in range(20):
                ticket = source.randrange(3)
                pair.do("step", ((ticket, source.choice([0, 1, 5])),))
                parts, lesser = source.choice(lessers)
                request, many = pair.slow.requests[ticket], source.randint(1, 8)
                wanted = () if request.word else self.wanted(parts, request, request.text, many)
                guesses = lesser_guesses(pair.house, ticket, lesser, many)
                self.assert_same(guesses, wanted)
                made.append(pair.do("guess", ticket, source.choice([guesses, as_lists(guesses)])))
                pair.check()
            pair.check_all()
        self.assertGreater(len([many for many in made if many > 3]), 20)
