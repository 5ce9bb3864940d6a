"""[36]: deadlines."""

import itertools
import random

from servedalone.asks import Ask
from servedalone.deadlines import deadline_plan
from servedalone.houses import House
from servedalone.nets import Net
from tests.helpers import EVEN, Case, as_lists


def in_time(needs, order):
    """Whether each need is met in time when the requests of the order advance, one by one."""
    return all(order[:by].count(ticket) >= many for ticket, many, by in needs)


def some_order(needs):
    """Whether some order of all advances gives each request its own in time."""
    advances = [ticket for ticket, many, _ in needs for _ in range(many)]
    return any(in_time(needs, order) for order in set(itertools.permutations(advances)))


class DeadlinePlan(Case):
    def test_no_needs(self):
        self.assert_same(deadline_plan(()), ((), None))
        self.assert_same(deadline_plan([]), ((), None))

    def test_the_earliest_first(self):
        needs = [[4, 2, 20], [0, 3, 5], [9, 1, 6]]
        self.assert_same(self.assert_keeps(deadline_plan, needs), (((0, 3), (9, 1), (4, 2)), None))
        self.assert_same(deadline_plan(needs=tuple(needs)), (((0, 3), (9, 1), (4, 2)), None))

    def test_equal_deadlines(self):
        self.assert_same(deadline_plan(((7, 1, 9), (3, 2, 9), (5, 6, 9))), (((3, 2), (5, 6), (7, 1)), None))
        self.assert_same(deadline_plan(((7, 1, 9), (3, 2, 9), (5, 7, 9))), (None, 9))
        # The tickets go before how many advances are needed.
        self.assert_same(deadline_plan(((2, 1, 9), (1, 8, 9))), (((1, 8), (2, 1)), None))

    def test_those_that_just_fit_and_that_just_do_not(self):
        self.assert_same(deadline_plan(((0, 5, 5),)), (((0, 5),), None))
        self.assert_same(deadline_plan(((0, 5, 4),)), (None, 4))
        self.assert_same(deadline_plan(((0, 1, 1), (1, 60, 61))), (((0, 1), (1, 60)), None))
        self.assert_same(deadline_plan(((0, 2, 2), (1, 60, 61))), (None, 61))
        needs = tuple((ticket, 50, 50 * ticket + 50) for ticket in range(40))
        self.assert_same(deadline_plan(needs[::-1]), (tuple((ticket, 50) for ticket in range(40)), None))
        self.assert_same(deadline_plan(needs[:39] + ((39, 51, 2000),)), (None, 2000))

    def test_the_lowest_deadline_that_cannot_be_kept(self):
        self.assert_same(deadline_plan(((0, 9, 20), (1, 9, 8), (2, 60, 30))), (None, 8))
        self.assert_same(deadline_plan(((0, 9, 20), (1, 9, 9), (2, 60, 30), (3, 3, 20))), (None, 20))
        self.assert_same(deadline_plan(((0, 1, 1), (1, 1, 1), (2, 1, 2))), (None, 1))

    def test_against_all_orders(self):
        kept = 0
        for seed in range(300):
            source = random.Random(seed)
            needs = []
            for ticket in source.sample(range(9), source.randint(1, 3)):
                needs.append((ticket, source.randint(1, 2 if len(needs) else 3), source.randint(1, 7)))
            plan, by = deadline_plan(source.choice([needs, as_lists(needs)]))
            fits = some_order(needs)
            kept += fits
            if fits:
                wanted = sorted(needs, key=lambda need: (need[2], need[0]))
                self.assert_same((plan, by), (tuple((ticket, many) for ticket, many, _ in wanted), None))
                self.assertTrue(in_time(needs, [ticket for ticket, many in plan for _ in range(many)]))
            else:
                late = [at for at in range(1, 30) if sum(many for _, many, one in needs if one <= at) > at]
                self.assert_same((plan, by), (None, min(late)))
        self.assertTrue(50 < kept < 250)

    def test_its_plan_is_one_for_a_house(self):
        house = House(Net(*EVEN[:5], None), 30, 2)
        for _ in range(3):
            house.ask(Ask((1,), 30))
        house.step(deadline_plan(((0, 3, 9), (2, 4, 4), (1, 2, 9)))[0])
        self.assert_same([len(house.text(ticket)) for ticket in range(3)], [3, 2, 4])
