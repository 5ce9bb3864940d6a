"""[25]: asks and their choice."""

import random

from servedalone.asks import Ask
from servedalone.errors import InvalidNumber
from servedalone.rules import Rule
from tests.helpers import Case, chosen, no_integers, some_rule, spoil, wrong_numbers

LETS_0_AND_2 = Rule(0, ((0, None, 0, None),))
LETS_NONE = Rule(0, ((None, None, None, None),))
# Behind no letters only 1, behind one letter only 3, behind more none.
IN_TURN = Rule(0, ((None, 1, None, None), (None, None, None, 2), (None, None, None, None)))


class Attributes(Case):
    def test_sequences_are_tuples(self):
        rule = Rule(0, ((0,),))
        ask = self.assert_keeps(Ask, [1, 2], 7, stops=[[3], (4, 5)], tape=[6, 0])
        self.assert_same((ask.prompt, ask.most, ask.stops, ask.tape), ((1, 2), 7, ((3,), (4, 5)), (6, 0)))
        self.assertIs(ask.rule, None)
        self.assertIs(Ask((1,), 1, rule=rule).rule, rule)

    def test_what_is_not_passed(self):
        ask = Ask((0,), 30)
        self.assert_same((ask.prompt, ask.most, ask.stops, ask.tape, ask.rule), ((0,), 30, (), (), None))

    def test_names(self):
        ask = Ask(rule=None, tape=(1,), stops=((2,),), most=3, prompt=(4,))
        self.assert_same((ask.prompt, ask.most, ask.stops, ask.tape, ask.rule), ((4,), 3, ((2,),), (1,), None))

    def test_the_last_three_only_by_name(self):
        with self.assertRaises(TypeError):
            Ask((0,), 1, ())

    def test_later_changes_have_no_effect(self):
        prompt, stops, tape = [1, 2], [[3, 4], [5]], [6, 7]
        ask = Ask(prompt, 2, stops=stops, tape=tape)
        spoil([prompt, stops, tape])
        self.assert_same((ask.prompt, ask.stops, ask.tape), ((1, 2), ((3, 4), (5,)), (6, 7)))

    def test_letters_that_are_none_are_kept_as_they_are(self):
        for letter in no_integers() + [-1, 99, 10 ** 399]:
            ask = Ask([letter, 0], 1, stops=[[0, letter]])
            self.assert_same((ask.prompt, ask.stops), ((letter, 0), ((0, letter),)))


class Most(Case):
    def test_from_1_to_30(self):
        for most in range(1, 31):
            self.assert_same(Ask((0,), most).most, most)

    def test_others_are_refused(self):
        for most in wrong_numbers(1, 30):
            self.assert_fails(InvalidNumber, {"number": most}, Ask, (0,), most)
            self.assert_fails(InvalidNumber, {"number": most}, Ask, (None,), most, stops=((True,),))

    def test_the_error_keeps_the_very_value(self):
        for most in [0, 31, True, None, "1", (1,), [1]]:
            with self.assertRaises(InvalidNumber) as caught:
                Ask((0,), most)
            self.assertIs(caught.exception.number, most)


class Choice(Case):
    def test_greatest_without_a_tape(self):
        ask = Ask((0,), 3)
        self.assert_same(ask.choice((1, 4, 4, 2), ()), 1)
        self.assert_same(self.assert_keeps(ask.choice, [1, 4, 2, 9], [3, 3]), 3)

    def test_by_number_with_a_tape(self):
        ask = Ask((0,), 9, tape=(0, 2, 5))
        found = [ask.choice((2, 1, 3), (0,) * many) for many in range(7)]
        self.assert_same(found, [0, 1, 2, 0, 1, 2, 0])

    def test_texts_longer_than_the_tape(self):
        ask = Ask((0,), 30, tape=(7,))
        self.assert_same([ask.choice((3, 3, 3), [0] * many) for many in (0, 1, 2, 29)], [2] * 4)

    def test_a_rule_that_lets_some_letters(self):
        ask = Ask((0,), 3, rule=LETS_0_AND_2)
        self.assert_same(ask.choice((3, 9, 5, 9), ()), 2)
        self.assert_same(ask.choice((3, 9, 3, 9), (0, 2)), 0)

    def test_a_rule_and_a_tape(self):
        ask = Ask((0,), 9, tape=(2, 3), rule=LETS_0_AND_2)
        # Only 3 and 5 count, so 2 falls to letter 0, and 3 to letter 2.
        self.assert_same([ask.choice((3, 9, 5, 9), text) for text in ((), (0,), (0, 2))], [0, 2, 0])

    def test_the_rule_looks_at_the_text(self):
        ask = Ask((0, 0), 9, rule=IN_TURN)
        self.assert_same(ask.choice((9, 1, 9, 1), ()), 1)
        self.assert_same(ask.choice((9, 1, 9, 1), (1,)), 3)
        self.assertIs(ask.choice((9, 1, 9, 1), (1, 3)), None)
        self.assertIs(ask.choice((9, 1, 9, 1), (2,)), None)

    def test_a_rule_that_lets_none(self):
        for tape in ((), (1, 2)):
            ask = Ask((0,), 3, tape=tape, rule=LETS_NONE)
            self.assertIs(ask.choice((1, 2, 3, 4), ()), None)
            self.assertIs(ask.choice((1, 2, 3, 4), (0, 1, 2)), None)

    def test_weights_that_are_0(self):
        self.assert_same(Ask((0,), 3).choice((0, 0, 1), ()), 2)
        self.assert_same(Ask((0,), 3, tape=(0,)).choice((0, 0, 1), ()), 2)
        self.assertIs(Ask((0,), 3, rule=LETS_0_AND_2).choice((0, 5, 0, 5), ()), None)
        self.assertIs(Ask((0,), 3, tape=(4,), rule=LETS_0_AND_2).choice((0, 5, 0, 5), ()), None)
        self.assertIs(Ask((0,), 3).choice((0, 0), ()), None)
        self.assertIs(Ask((0,), 3, tape=(4,)).choice((0, 0), ()), None)

    def test_names(self):
        self.assert_same(Ask((0,), 3).choice(text=(1,), weights=(1, 2)), 1)

    def test_against_the_document(self):
        for seed in range(300):
            source = random.Random(seed)
            letters = source.randint(1, 12)
            rule = source.choice([None, some_rule(source, letters)])
            tape = [source.randrange(1000000) for _ in range(source.choice([0, 1, 2, 12]))]
            text = [source.randrange(letters) for _ in range(source.randint(0, 30))]
            weights = [source.choice([0, 1, 2, source.randrange(10 ** 40)]) for _ in range(letters)]
            ask = Ask((0,), 3, tape=tape, rule=rule)
            found = self.assert_keeps(ask.choice, weights, text)
            self.assert_same(found, chosen(weights, text, tape, rule))
