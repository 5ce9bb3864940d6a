"""[29]: deeds, pictures, and houses to which all is done again."""

import copy
import random

from servedalone.asks import Ask
from servedalone.deeds import do, picture, redo
from servedalone.errors import InvalidLetter, NoRequest
from servedalone.houses import House
from servedalone.nets import Net
from servedalone.plain import rows_of
from servedalone.rules import Rule
from tests.helpers import OWN_ERRORS, ROUND, Case, as_lists, as_tuples, spoil, whole_state
from tests.pairs import CALLS, Deeds, Pair, some_served

NINE = ("ask", "step", "put_off", "swap_out", "swap_in", "fork", "cancel", "guess", "deliver")


def paths_as_dropped(house):
    """The pairs of the tree in the order in which drop takes them, from a copy in which nothing else holds them."""
    house = copy.deepcopy(house)
    for ticket in house.going():
        house.cancel(ticket)
    gone = []
    while len(house.tree):
        before = list(house.tree)
        house.tree.drop()
        gone.extend(path for path in before if path not in list(house.tree))
    return tuple(gone)


class Do(Case):
    def test_each_deed_returns_what_the_method_returns(self):
        house = House(Net(*ROUND), 20, 2)
        for deed, wanted in (
            (("ask", Ask((0,), 9)), 0), (("ask", Ask([1, 2], 3, tape=[5])), 1),
            (("step", ((0, 2), (1, 60))), (1,)), (("deliver", 0), (1, 2)), (("deliver", 0), ()),
            (("fork", 0, (7, 8)), 2), (("fork", 1, ()), None), (("guess", 0, (3, 0, 0)), 3), (("guess", 1, (3,)), 0),
            (("swap_out", 0), True), (("swap_out", 0), False), (("swap_in", 0), True), (("swap_in", 2), False),
            (("put_off", 2), True), (("put_off", 2), False), (("cancel", 2), True), (("cancel", 2), False),
            (("step", ()), ()),
        ):
            self.assert_same(do(house, deed), wanted)
        self.assert_same((house.text(0), house.word(1), house.word(2)), ((1, 2, 3, 0, 1), "most", "cancelled"))

    def test_against_the_methods(self):
        done = {}
        for seed in range(60):
            pair = Deeds(self, seed)
            for _ in range(40):
                pair.one_deed()
                pair.check()
            pair.check_all()
            for deed in pair.deeds:
                done[deed[0]] = True
        self.assertEqual(sorted(done), sorted(NINE))

    def test_each_deed_raises_what_the_method_raises(self):
        for seed in range(40):
            pair = Deeds(self, seed)
            for _ in range(10):
                pair.one_deed()
            before = whole_state(pair.house), picture(pair.house)
            for deed, error, values in pair.wrong_deeds():
                self.assert_fails(error, values, do, pair.house, deed)
                self.assert_fails(error, values, getattr(pair.house, deed[0]), *deed[1:])
            self.assertEqual((whole_state(pair.house), picture(pair.house)), before)

    def test_by_their_names_and_later_changes(self):
        net = Net(*ROUND)
        house = House(net, 20, 2)
        prompt, tape, guesses = [0, 1], [3, 4], [2, 3]
        deeds = [["ask", Ask(prompt, 9)], ["step", [[0, 1]]], ["fork", 0, tape], ["step", [[0, 1]]]]
        deeds += [["guess", 0, guesses], ["fork", 0, tape]]
        for deed in deeds:
            kept = copy.deepcopy(deed[1:]) if deed[0] != "ask" else deed[1:]
            do(deed=deed, house=house)
            self.assertEqual(deed[1:], kept)
        before = whole_state(house)
        for value in (prompt, tape, guesses, deeds):
            spoil(value)
        self.assertEqual(whole_state(house), before)


class Picture(Case):
    def test_an_empty_house(self):
        self.assert_same(picture(House(Net(*ROUND), 3, 2)), (((), (), ()), (0, 0, 0), (), ()))

    def test_by_hand(self):
        net = Net(*ROUND)
        rule = Rule(1, [[0, 0, 0, 0], [None, 0, 1, 1]])
        house = House(net, 8, 2)
        for ask in (
            Ask((0, 1), 9, stops=[[3, 3]], tape=[9, 0], rule=rule), Ask([0, 1, 2], 1), Ask((3,), 9), Ask((2, 2), 9),
            Ask((0, 1, 2), 7),
        ):
            house.ask(ask)
        house.step(((1, 60), (2, 2), (3, 2)))
        house.deliver(2)
        house.swap_out(2)
        house.swap_out(4)
        house.fork(3, [6])
        house.step(((0, 1),))
        house.cancel(3)
        rows = rows_of(net, (0, 1))
        blocks = (rows, rows_of(net, (3, 0)), rows_of(net, (2, 2)), (), (), (), (), ())
        requests = (
            ((0, 1), 9, ((3, 3),), (9, 0), 1, ((0, 0, 0, 0), (None, 0, 1, 1)), (2,), 0, None, (0,), 2, None, 0),
            ((0, 1, 2), 1, (), (), None, None, (3,), 0, "most", (), 0, None, 0),
            ((3,), 9, (), (), None, None, (0, 1), 0, None, (), 0, rows_of(net, (3, 0)), 2),
            ((2, 2), 9, (), (), None, None, (3,), 0, "cancelled", (), 0, None, 0),
            ((0, 1, 2), 7, (), (), None, None, (), 0, None, (), 0, (), 0),
            ((2, 2), 9, (), (6,), None, None, (3,), 1, None, (2,), 2, None, 0),
        )
        tree = (((3, 0), 1), ((2, 2), 2), ((0, 1), 0))
        found = self.assert_keeps(picture, house=house)
        self.assert_same(found, (blocks, (2, 1, 2, 0, 0, 0, 0, 0), requests, tree))

    def test_a_house_that_came_back(self):
        house = House(Net(*ROUND), 20, 2)
        house.ask(Ask((0,), 9))
        house.ask(Ask((1,), 2))
        house.step(((0, 5), (1, 9)))
        house.deliver(0)
        house.step(((0, 1),))
        house = House.come_back(house.net, 4, 1, house.log())
        requests = (
            ((0,), 9, (), (), None, None, (1, 2, 3, 0, 1), 5, None, (), 0, None, 5),
            ((1,), 2, (), (), None, None, (2, 3), 2, "most", (), 0, None, 0),
        )
        self.assert_same(picture(house), (((),) * 4, (0,) * 4, requests, ()))

    def test_against_a_slow_house(self):
        for seed in range(120):
            pair = Pair(self, seed)
            for _ in range(30):
                pair.one_call(CALLS + ["come_back"])
                self.assert_same(picture(pair.house), pair.slow.picture())
            self.assertEqual(picture(copy.deepcopy(pair.house)), picture(pair.house))

    def test_long_rows_of_deeds(self):
        seen = {}
        for seed in range(30):
            pair = Deeds(self, seed)
            for _ in range(60):
                pair.one_deed()
            found = picture(pair.house)
            self.assert_same(found, pair.slow.picture())
            for request in found[2]:
                state = "out" if request[11] is not None else request[8]
                seen[state, request[7] > 0, request[4] is None, request[12] > 0] = True
            seen["free"] = seen.get("free", False) or () in found[0]
        self.assertTrue(seen["free"])
        self.assertGreater(len(seen), 20)

    def test_it_changes_nothing(self):
        for seed in range(60):
            pair = Deeds(self, seed)
            for _ in range(25):
                pair.one_deed()
            before = whole_state(pair.house)
            first = picture(pair.house)
            self.assert_same(picture(pair.house), first)
            self.assertEqual(whole_state(pair.house), before)
            # No last use either: the slow house was not pictured.
            for _ in range(15):
                picture(pair.house)
                pair.one_call(CALLS)
                pair.check()
            pair.check_all()

    def test_the_order_of_the_pairs(self):
        longest = 0
        for seed in range(80):
            pair = Deeds(self, seed)
            for _ in range(40):
                pair.one_deed()
            pairs = picture(pair.house)[3]
            self.assert_same(tuple(sorted(path for path, _ in pairs)), tuple(pair.house.tree))
            self.assert_same(tuple(path for path, _ in pairs), paths_as_dropped(pair.house))
            other = redo(pair.net, *pair.shape, pair.deeds)
            self.assert_same(picture(other)[3], pairs)
            self.assert_same(tuple(path for path, _ in pairs), paths_as_dropped(other))
            for path, block in pairs:
                self.assert_same(pair.house.tree.known(path)[-1], block)
            longest = max(longest, len(pairs))
        self.assertGreater(longest, 10)

    def test_drop_by_drop(self):
        for seed in range(60):
            pair = Deeds(self, seed)
            for _ in range(40):
                pair.one_deed()
            house = pair.house
            for ticket in house.going():
                house.cancel(ticket)
            pairs = picture(house)[3]
            for number in range(len(pairs)):
                self.assert_same(picture(house)[3], pairs[number:])
                self.assert_same(house.tree.drop(), True)
            self.assert_same(picture(house)[3], ())


class Redo(Case):
    def assert_equal_houses(self, one, other):
        self.assertEqual(picture(one), picture(other))
        self.assertEqual(one.log(), other.log())
        self.assert_same((one.reckoned, one.going()), (other.reckoned, other.going()))

    def test_no_deeds(self):
        net = Net(*ROUND)
        for deeds in ((), []):
            house = redo(net, 3, 2, deeds)
            self.assertEqual(whole_state(house), whole_state(House(net, 3, 2)))
            self.assertIs(house.net, net)

    def test_deeds_that_raise_in_between(self):
        failed = 0
        for seed in range(80):
            pair = Deeds(self, seed)
            for _ in range(45):
                pair.one_deed()
            deeds = pair.deeds[:60]
            house = House(pair.net, *pair.shape)
            for deed in deeds:
                try:
                    do(house, deed)
                except OWN_ERRORS:
                    failed += 1
            many, size = pair.shape
            for again in (
                redo(pair.net, many, size, tuple(deeds)), redo(deeds=list(deeds), size=size, many=many, net=pair.net),
            ):
                self.assert_equal_houses(again, house)
                self.assertEqual(whole_state(again), whole_state(house))
                self.later_results(again, copy.deepcopy(house), pair.letters, random.Random(seed))
        self.assertGreater(failed, 100)

    def later_results(self, one, other, letters, source):
        """What is done to both from here on has equal results."""
        for _ in range(12):
            tickets = range(len(one.log()))
            deeds = [("ask", some_served(source, letters, 6, 9))]
            for ticket in source.sample(tickets, min(3, len(tickets))):
                name = source.choice(["put_off", "swap_out", "swap_in", "swap_in", "cancel", "deliver"])
                deeds += [(name, ticket), ("step", [(ticket, source.randint(0, 9))]), ("fork", ticket, (4, 4))]
                deeds.append(("guess", ticket, (source.randrange(letters),)))
            deed = source.choice(deeds if len(tickets) < 28 else deeds[1:])
            self.assert_same(do(one, deed), do(other, deed))
            self.assertEqual(picture(one), picture(other))
        self.assert_equal_houses(one, other)

    def test_by_hand(self):
        deeds = [
            ["ask", Ask((0, 1), 4)], ("step", [[0, 1], [1, 1]]), ("deliver", 7), ("ask", Ask((4,), 1)),
            ["step", [[0, 2]]], ["guess", 0, [9]], ["step", [[0, 61]]], ["deliver", 0],
        ]
        house = self.assert_keeps(redo, Net(*ROUND), 4, 2, deeds)
        self.assert_same((house.text(0), house.delivered(0), house.reckoned, len(house.log())), ((2,), 1, 2, 1))
        before = whole_state(house)
        for deed in deeds:
            if isinstance(deed, list):
                spoil(deed)
        deeds.clear()
        self.assertEqual(whole_state(house), before)

    def test_lists_and_tuples_are_the_same(self):
        for seed in range(20):
            pair = Deeds(self, seed)
            for _ in range(20):
                pair.one_deed(may_fail=False)
            self.assert_equal_houses(
                redo(pair.net, *pair.shape, as_lists(pair.deeds)), redo(pair.net, *pair.shape, as_tuples(pair.deeds)),
            )

    def test_other_errors_are_not_passed_over(self):
        with self.assertRaises(TypeError):
            redo(Net(*ROUND), 4, 2, [("ask", Ask((0,), 1)), ("deliver",)])

    def test_the_errors_are_those_of_the_package(self):
        house = redo(Net(*ROUND), 4, 2, [("step", ((0, 1),))])
        self.assert_fails(NoRequest, {"ticket": 0}, do, house, ("step", ((0, 1),)))
        self.assert_fails(InvalidLetter, {"letter": 5}, do, house, ("ask", Ask((5,), 1)))
