"""[30]: fairness."""

import random

from servedalone.asks import Ask
from servedalone.fairness import Fair
from servedalone.houses import House
from servedalone.nets import Net
from tests.helpers import COUNTING, Case, spoil


def next_one(weights, tally, members):
    """The member to be chosen: no other one is lower, and none that is as low stands before it."""
    def is_lower(one, other):
        return (tally[one] + 1) * weights[other] < (tally[other] + 1) * weights[one]

    lowest = [member for member in members if not any(is_lower(other, member) for other in members)]
    return min(lowest)


def some_weights(source):
    most = source.choice([1, 2, 5, 100])
    return [source.randint(1, most) for _ in range(source.randint(1, 12))]


def some_members(source, many):
    chosen = sorted(source.sample(range(many), source.randint(1, many)))
    return source.choice([tuple(chosen), chosen])


class Choose(Case):
    def test_by_hand(self):
        fair = Fair((1, 3, 2))
        self.assert_same(fair.tally, (0, 0, 0))
        # 1/1 1/3 1/2, then 2/3, then 2/2: equal ones go to the lowest.
        found = [fair.choose((0, 1, 2)) for _ in range(12)]
        self.assert_same(found, [1, 2, 1, 0, 1, 2, 1, 2, 1, 0, 1, 2])
        self.assert_same(fair.tally, (2, 6, 4))

    def test_only_members_that_are_passed(self):
        fair = Fair(weights=[1, 100, 1])
        self.assert_same([fair.choose([0, 2]), fair.choose(members=(2,)), fair.choose((0, 2))], [0, 2, 0])
        self.assert_same((fair.tally, fair.choose((0, 1, 2)), fair.tally), ((2, 0, 1), 1, (2, 1, 1)))
        self.assert_same([fair.choose((0,)) for _ in range(3)], [0, 0, 0])
        self.assert_same([fair.choose((0, 2)) for _ in range(5)], [2, 2, 2, 2, 0])

    def test_one_member(self):
        fair = Fair((7,))
        self.assert_same([fair.choose((0,)) for _ in range(4)], [0] * 4)
        self.assert_same(fair.tally, (4,))

    def test_equal_ones_to_the_lowest(self):
        fair = Fair([5] * 12)
        self.assert_same([fair.choose(tuple(range(12))) for _ in range(24)], list(range(12)) * 2)
        # (5 + 1) / 100 is as much as (2 + 1) / 50.
        fair = Fair((50, 100))
        fair.plan((0,), 2)
        fair.plan((1,), 5)
        self.assert_same((fair.tally, fair.choose((0, 1)), fair.choose((0, 1))), ((2, 5), 0, 1))

    def test_against_an_own_reckoning(self):
        for seed in range(150):
            source = random.Random(seed)
            weights = some_weights(source)
            kept = list(weights)
            fair, tally = Fair(weights), [0] * len(kept)
            spoil(weights)
            for _ in range(60):
                members = some_members(source, len(kept))
                wanted = next_one(kept, tally, members)
                self.assert_same(self.assert_keeps(fair.choose, members), wanted)
                tally[wanted] += 1
                self.assert_same(fair.tally, tuple(tally))

    def test_no_two_members_fall_apart(self):
        for seed in range(60):
            source = random.Random(seed)
            weights = some_weights(source)
            fair, members = Fair(tuple(weights)), range(len(weights))
            # Some stay among the members in all choices; the others come and go.
            always = sorted(source.sample(members, source.randint(1, len(weights))))
            for _ in range(300):
                others = [member for member in members if member not in always and source.random() < 0.5]
                fair.choose(sorted(always + others))
                tally = fair.tally
                for i in always:
                    for j in always:
                        self.assertLessEqual(tally[i] * weights[j], (tally[j] + 1) * weights[i])
            self.assert_same(sum(fair.tally), 300)


class Plan(Case):
    def test_by_hand(self):
        fair = Fair((1, 3))
        self.assert_same(fair.plan((0, 1), 5), ((1, 1), (1, 1), (0, 1), (1, 1), (1, 1)))
        self.assert_same(fair.tally, (1, 4))
        self.assert_same(fair.plan(budget=0, members=[0, 1]), ())
        self.assert_same((fair.tally, fair.plan([0], 2), fair.tally), ((1, 4), ((0, 1), (0, 1)), (3, 4)))

    def test_budgets(self):
        for budget in range(41):
            source = random.Random(budget)
            weights = some_weights(source)
            fair, tally = Fair(weights), [0] * len(weights)
            for _ in range(4):
                members = some_members(source, len(weights))
                wanted = []
                for _ in range(budget):
                    wanted.append((next_one(weights, tally, members), 1))
                    tally[wanted[-1][0]] += 1
                self.assert_same(self.assert_keeps(fair.plan, members, budget), tuple(wanted))
                self.assert_same(fair.tally, tuple(tally))

    def test_plans_are_for_houses(self):
        house = House(Net(*COUNTING), 9, 2)
        for letter in (1, 1):
            house.ask(Ask((letter,), 2))
        self.assert_same(house.step(Fair((1, 2)).plan(house.going(), 5)), (1, 0))


class TwoOfThem(Case):
    def test_they_do_not_touch_each_other(self):
        weights = [2, 1, 1]
        one, other = Fair(weights), Fair(weights)
        one.plan((0, 1, 2), 8)
        self.assert_same((one.tally, other.tally), ((4, 2, 2), (0, 0, 0)))
        self.assert_same((other.choose((1, 2)), one.tally, other.tally), (1, (4, 2, 2), (0, 1, 0)))

    def test_a_tally_stays(self):
        fair = Fair((1, 1))
        before = fair.tally
        fair.choose((0, 1))
        self.assert_same((before, fair.tally), ((0, 0), (1, 0)))
