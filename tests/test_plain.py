"""[9]: what a net writes for an ask alone."""

import random

from servedalone.asks import Ask
from servedalone.errors import InvalidLetter
from servedalone.nets import Net
from servedalone.plain import rows_of, weights_behind, written
from servedalone.rules import Rule
from tests.helpers import (
    COUNTING, EVEN, Case, alone, as_lists, no_integers, parts_of_net, reckoned_rows, some_ask, some_net, spoil,
    wrong_numbers,
)


class RowsOf(Case):
    def test_each_behind_those_before(self):
        for seed in range(40):
            source = random.Random(seed)
            parts = parts_of_net(source)
            letters = [source.randrange(len(parts[1])) for _ in range(source.randint(1, 20))]
            wanted = reckoned_rows(parts, letters)
            self.assert_same(self.assert_keeps(rows_of, Net(*parts), letters), wanted)
            self.assert_same(rows_of(letters=tuple(letters), net=Net(*parts)), wanted)

    def test_no_letters(self):
        self.assert_same(rows_of(some_net(1), ()), ())
        self.assert_same(rows_of(some_net(1), []), ())

    def test_a_wrong_letter(self):
        net = some_net(2, letters=3)
        for letter in wrong_numbers(0, 2):
            self.assert_fails(InvalidLetter, {"letter": letter}, rows_of, net, [0, letter, 7])


class WeightsBehind(Case):
    def test_those_of_the_last_letter(self):
        for seed in range(40):
            source = random.Random(seed)
            parts = parts_of_net(source)
            letters = [source.randrange(len(parts[1])) for _ in range(source.randint(1, 20))]
            wanted = reckoned_rows(parts, letters)[-1][1]
            self.assert_same(self.assert_keeps(weights_behind, Net(*parts), letters), wanted)
            self.assert_same(weights_behind(letters=tuple(letters), net=Net(*parts)), wanted)


class Words(Case):
    def test_the_example_of_the_document(self):
        net = Net(5, ((1,), (2,), (3,)), (1,), (), ((1,), (2,), (3,)), 0)
        self.assert_same(written(net, Ask((1,), 5)), ((1, 2), "end"))

    def test_end_at_once(self):
        self.assert_same(written(Net(*COUNTING), Ask((3,), 5)), ((), "end"))

    def test_end_is_chosen_by_the_tape(self):
        # The sum of the weights is 10: 3 falls to letter 2, 1 to letter 1, 0 to the end.
        self.assert_same(written(Net(*EVEN), Ask((2,), 30, tape=(3, 1, 0))), ((2, 1), "end"))

    def test_without_an_end_letter_0_is_like_others(self):
        self.assert_same(written(Net(*EVEN[:5], None), Ask((2,), 4, tape=(3, 0))), ((2, 0, 2, 0), "most"))

    def test_most(self):
        net = Net(*EVEN)
        for most in (1, 2, 30):
            self.assert_same(written(net, Ask((1,), most)), ((3,) * most, "most"))

    def test_end_before_most(self):
        self.assert_same(written(Net(*COUNTING), Ask((1,), 2)), ((2, 3), "most"))
        self.assert_same(written(Net(*COUNTING), Ask((1,), 3)), ((2, 3), "end"))

    def test_stuck(self):
        rule = Rule(0, ((None, 1, 1, None), (1, 2, None, None), (None,) * 4))
        # First 2, then 1, then none.
        self.assert_same(written(Net(*EVEN), Ask((3,), 9, rule=rule)), ((2, 1), "stuck"))
        self.assert_same(written(Net(*EVEN), Ask((3,), 2, rule=rule)), ((2, 1), "most"))

    def test_stuck_at_once(self):
        self.assert_same(written(Net(*EVEN), Ask((3,), 9, rule=Rule(0, ((None,) * 4,)))), ((), "stuck"))

    def test_the_rule_may_force_the_end(self):
        self.assert_same(written(Net(*EVEN), Ask((3,), 9, rule=Rule(0, ((0, None, None, None),)))), ((), "end"))

    def test_a_tape_shorter_than_the_text(self):
        found = written(Net(*EVEN), Ask((1,), 5, tape=(1, 3)))
        self.assert_same(found, ((1, 2, 1, 2, 1), "most"))


class Stops(Case):
    def test_a_stop_is_taken_off(self):
        net = Net(*COUNTING)
        self.assert_same(written(net, Ask((0,), 9, stops=((2, 3),))), ((1,), "stop"))
        self.assert_same(written(net, Ask((0,), 9, stops=[[1]])), ((), "stop"))

    def test_the_longest_is_taken_off(self):
        net = Net(*COUNTING)
        for stops in (((3,), (2, 3)), ((2, 3), (3,)), ((3,), (2, 3), (3, 3))):
            self.assert_same(written(net, Ask((0,), 9, stops=stops)), ((1,), "stop"))
        for stops in (((1, 2, 3), (3,), (2, 3)), ((3,), (2, 3), (1, 2, 3))):
            self.assert_same(written(net, Ask((0,), 9, stops=stops)), ((), "stop"))

    def test_the_first_one_reached_counts(self):
        self.assert_same(written(Net(*COUNTING), Ask((0,), 9, stops=((1, 2, 3), (2,)))), ((1,), "stop"))

    def test_a_stop_does_not_reach_into_the_prompt(self):
        self.assert_same(written(Net(*COUNTING), Ask((1, 2), 9, stops=((2, 3),))), ((3,), "end"))

    def test_a_stop_longer_than_the_text(self):
        self.assert_same(written(Net(*EVEN), Ask((3,), 2, stops=((3, 3, 3),))), ((3, 3), "most"))

    def test_stop_goes_before_most(self):
        self.assert_same(written(Net(*COUNTING), Ask((0,), 2, stops=((2,),))), ((1,), "stop"))

    def test_the_end_is_no_part_of_a_stop(self):
        self.assert_same(written(Net(*COUNTING), Ask((2,), 9, stops=((3, 0),))), ((3,), "end"))


class Begun(Case):
    def test_the_text_goes_on(self):
        net = Net(*COUNTING)
        self.assert_same(written(net, Ask((0,), 9), begun=(2,)), ((2, 3), "end"))
        self.assert_same(written(net, Ask((0,), 2), begun=(1,)), ((1, 2), "most"))
        self.assert_same(self.assert_keeps(written, net, Ask((0,), 9), begun=[1, 2]), ((1, 2, 3), "end"))

    def test_a_stop_that_begins_in_what_is_begun(self):
        net = Net(*COUNTING)
        self.assert_same(written(net, Ask((0,), 9, stops=((1, 2, 3),)), begun=(1, 2)), ((), "stop"))
        self.assert_same(written(net, Ask((0,), 9, stops=((1, 2, 3),)), begun=(3, 1)), ((3,), "stop"))

    def test_a_stop_that_is_begun_already_is_none(self):
        self.assert_same(written(Net(*COUNTING), Ask((0,), 9, stops=((2,),)), begun=(1, 2)), ((1, 2, 3), "end"))

    def test_the_rule_and_the_tape_go_on_behind_it(self):
        rule = Rule(0, ((None, 1, 1, 1), (None, None, None, 0)))
        self.assert_same(written(Net(*EVEN), Ask((0,), 4, rule=rule), begun=(1,)), ((1, 3, 3, 3), "most"))
        self.assert_same(written(Net(*EVEN), Ask((0,), 9, tape=(1, 3, 0)), begun=(1,)), ((1, 2), "end"))
        self.assert_same(written(Net(*EVEN), Ask((0,), 9, rule=rule), begun=(1, 2)), ((1, 2), "stuck"))

    def test_only_by_name(self):
        with self.assertRaises(TypeError):
            written(some_net(1), Ask((0,), 3), ())


class Reckoned(Case):
    def test_against_a_reckoning_from_nothing(self):
        words = []
        for seed in range(400):
            source = random.Random(seed)
            letters = source.choice([1, 2, 2, 3, 3, 4, 12])
            parts = parts_of_net(source, letters=letters, end=source.choice([None, source.randrange(letters)]))
            ask = some_ask(source, letters)
            many = source.choice([0, 0, 1, source.randrange(ask.most)])
            begun = [source.randrange(letters) for _ in range(min(many, ask.most - 1))]
            wanted = alone(parts, ask, begun)
            self.assert_same(self.assert_keeps(written, Net(*parts), ask, begun=begun), wanted)
            self.assert_same(written(begun=tuple(begun), ask=ask, net=Net(*parts)), wanted)
            words.append(wanted[1])
        for word in ("stuck", "end", "stop", "most"):
            self.assertGreater(words.count(word), 20, word)

    def test_prompts_of_1_and_20_letters_and_most_1_and_30(self):
        for seed in range(20):
            source = random.Random(seed)
            parts = parts_of_net(source, letters=5)
            for many in (1, 20):
                prompt = [source.randrange(5) for _ in range(many)]
                for most in (1, 30):
                    for tape in ((), (source.randrange(1000000), 7, 999999)):
                        ask = Ask(prompt, most, tape=tape)
                        self.assert_same(written(Net(*parts), ask), alone(parts, ask))
                        self.assertEqual(written(Net(*parts), ask)[1], "most")

    def test_two_nets_asked_in_turn(self):
        both = [parts_of_net(random.Random(seed), letters=4, end=3) for seed in (11, 12)]
        nets = [Net(*parts) for parts in both]
        for seed in range(20):
            ask = some_ask(random.Random(seed), 4)
            for parts, net in zip(both, nets):
                self.assert_same(written(net, ask), alone(parts, ask))
                self.assert_same(rows_of(net, ask.prompt), reckoned_rows(parts, ask.prompt))

    def test_what_was_passed_may_be_changed_later(self):
        parts = parts_of_net(random.Random(3), letters=3, layers=1)
        net, begun, stops, prompt = Net(*parts), [1, 2], [[0, 0]], [2, 1]
        ask = Ask(prompt, 9, stops=stops)
        wanted = alone(parts, Ask((2, 1), 9, stops=((0, 0),)), (1, 2))
        found = written(net, ask, begun=begun)
        spoil([begun, stops, prompt])
        self.assert_same(found, wanted)
        self.assert_same(written(net, ask, begun=(1, 2)), wanted)


class WrongLetters(Case):
    net = Net(*EVEN)

    def assert_first(self, letter, ask, begun=()):
        self.assert_fails(InvalidLetter, {"letter": letter}, written, self.net, ask, begun=begun)
        self.assert_fails(InvalidLetter, {"letter": letter}, written, self.net, ask, begun=as_lists(begun))

    def test_in_the_prompt(self):
        for letter in wrong_numbers(0, 3):
            self.assert_first(letter, Ask((letter,), 3))
            self.assert_first(letter, Ask((0, 1, letter), 3))
            self.assert_first(letter, Ask((0, letter, 4), 3, stops=((5,),)), (6,))

    def test_in_each_place_of_the_stops(self):
        for letter in wrong_numbers(0, 3):
            for at in range(3):
                for place in range(4):
                    stops = [[0, 1, 2, 3], [3, 3, 3, 3], [1, 0, 2, 0]]
                    stops[at][place] = letter
                    self.assert_first(letter, Ask((0,), 3, stops=stops))

    def test_in_begun(self):
        for letter in no_integers() + [4, -1, 10 ** 399]:
            # A list in begun is the letter itself here, so begun is not turned into lists throughout.
            for begun in ((letter,), [0, letter], (1, letter, 9)):
                self.assert_fails(
                    InvalidLetter, {"letter": letter}, written, self.net, Ask((0,), 9), begun=begun)

    def test_the_first_of_several(self):
        self.assert_first(5, Ask((0, 5, 6), 3, stops=((7,), (8,))), (9, 4))
        self.assert_first(7, Ask((0, 1), 9, stops=((1, 2), (3, 7, 4), (8,))), (9,))
        self.assert_first(8, Ask((0, 1), 9, stops=((1, 2), (3,), (0, 8))), (9,))
        self.assert_first(9, Ask((0, 1), 9, stops=((1, 2), (3,))), (2, 9, 4))

    def test_a_letter_that_only_equals_one_is_none(self):
        self.assert_first(True, Ask((0, True), 3))
        self.assert_first(False, Ask((0,), 3, stops=((1, False),)))
        self.assert_first(True, Ask((0,), 3), (True,))

    def test_the_end_is_a_letter(self):
        self.assert_same(written(self.net, Ask((0,), 1, stops=((0,),)), begun=()), ((3,), "most"))
