"""[8]: rules."""

import random
from unittest import mock

from servedalone.asks import Ask
from servedalone.rules import Rule
from tests.helpers import Case, as_lists, no_integers, some_rule, spoil

# State 0 goes on with 0 or 1, state 1 with 2 alone, state 2 not at all.
STEPS = ((0, 1, None), (None, None, 2), (None, None, None))


class Attributes(Case):
    def test_tuples(self):
        for steps in (STEPS, as_lists(STEPS), list(STEPS), tuple(as_lists(STEPS))):
            rule = self.assert_keeps(Rule, 1, steps)
            self.assert_same((rule.start, rule.steps), (1, STEPS))

    def test_later_changes_have_no_effect(self):
        steps = as_lists(STEPS)
        rule = Rule(0, steps)
        spoil(steps)
        self.assert_same(rule.steps, STEPS)
        self.assert_same(rule.after((0, 1, 2)), 2)

    def test_names(self):
        rule = Rule(steps=STEPS, start=2)
        self.assert_same((rule.start, rule.steps), (2, STEPS))


class After(Case):
    def test_no_letters(self):
        for start in range(3):
            self.assert_same(Rule(start, STEPS).after(()), start)

    def test_steps(self):
        rule = Rule(0, STEPS)
        self.assert_same(rule.after((0,)), 0)
        self.assert_same(rule.after((0, 0, 1)), 1)
        self.assert_same(self.assert_keeps(rule.after, [1, 2]), 2)
        self.assert_same(rule.after(text=(1,)), 1)

    def test_no_step(self):
        rule = Rule(0, STEPS)
        self.assertIs(rule.after((2,)), None)
        self.assertIs(rule.after((1, 2, 0)), None)

    def test_behind_a_text_that_has_no_state(self):
        rule = Rule(0, STEPS)
        self.assertIs(rule.after((2, 0)), None)
        self.assertIs(rule.after((2, 0, 1, 2)), None)

    def test_a_rule_with_no_step_at_all(self):
        rule = Rule(0, ((None, None),))
        self.assert_same(rule.after(()), 0)
        self.assertIs(rule.after((1,)), None)


class Lets(Case):
    def test_each_letter(self):
        rule = Rule(0, STEPS)
        self.assert_same([rule.lets((), letter) for letter in range(3)], [True, True, False])
        self.assert_same([rule.lets((0, 1), letter) for letter in range(3)], [False, False, True])
        self.assert_same([rule.lets([1, 2], letter) for letter in range(3)], [False] * 3)

    def test_a_step_to_state_0_is_a_step(self):
        self.assertIs(Rule(0, ((0,),)).lets((0, 0), 0), True)

    def test_behind_a_text_that_has_no_state(self):
        rule = Rule(0, STEPS)
        self.assert_same([rule.lets((2,), letter) for letter in range(3)], [False] * 3)
        self.assert_same([rule.lets((2, 0), letter) for letter in range(3)], [False] * 3)

    def test_names(self):
        self.assertIs(Rule(0, STEPS).lets(letter=1, text=(0,)), True)

    def test_agrees_with_after(self):
        for seed in range(60):
            source = random.Random(seed)
            letters = source.randint(1, 12)
            rule = some_rule(source, letters)
            text = []
            state = rule.start
            for _ in range(20):
                self.assert_same(self.assert_keeps(rule.after, text), state)
                for letter in range(letters):
                    wanted = state is not None and rule.steps[state][letter] is not None
                    self.assertIs(rule.lets(text, letter), wanted)
                text.append(source.randrange(letters))
                state = None if state is None else rule.steps[state][text[-1]]


class Equality(Case):
    def assert_equal_rules(self, one, other, wanted):
        self.assertIs(one == other, wanted)
        self.assertIs(other == one, wanted)
        self.assertIs(one != other, not wanted)
        self.assertIs(other != one, not wanted)

    def test_equal_ones(self):
        self.assert_equal_rules(Rule(0, STEPS), Rule(0, as_lists(STEPS)), True)
        rule = Rule(2, STEPS)
        self.assert_equal_rules(rule, rule, True)

    def test_unlike_ones(self):
        self.assert_equal_rules(Rule(0, STEPS), Rule(1, STEPS), False)
        self.assert_equal_rules(Rule(0, STEPS), Rule(0, STEPS[:2]), False)
        self.assert_equal_rules(Rule(0, ((0, None),)), Rule(0, ((None, 0),)), False)

    def test_the_same_steps_in_another_order_are_unlike(self):
        self.assert_equal_rules(Rule(0, ((1,), (0,))), Rule(1, ((1,), (0,))), False)

    def test_things_of_another_kind(self):
        rule = Rule(0, STEPS)
        for other in no_integers() + [0, (0, STEPS), Ask((0,), 1), object(), Rule]:
            self.assert_equal_rules(rule, other, False)

    def test_a_thing_that_calls_itself_equal_to_all(self):
        self.assertIs(Rule(0, STEPS) == mock.ANY, False)
        self.assertIs(Rule(0, STEPS) != mock.ANY, True)
