"""[28]: shelves."""

import copy

from servedalone.asks import Ask
from servedalone.audits import faults, holders
from servedalone.houses import House
from servedalone.nets import Net
from servedalone.planners import serve
from servedalone.plain import rows_of, written
from servedalone.shelves import warm, write_paths
from tests.helpers import COUNTING, EVEN, Case, all_rows, dropped, some_net, whole_state
from tests.pairs import CALLS, Pair, some_served

# The example of the document: two rows of a net with one layer of width 1 and three letters.
EXAMPLE = ((((((4,), (0,)),), (3, 5, 2)), ((((1,), (1,)),), (2, 2, 6))), "1 2:4 0 3 5 2;1 1 2 2 6\n")


def drawn(case, seed, calls=25, **wanted):
    """A pair of houses with some paths."""
    pair = Pair(case, seed, **wanted)
    for _ in range(calls):
        pair.one_call(CALLS)
    return pair


def read(net, many, size, *prompts):
    """A house that has read these prompts one after the other, and has no request going."""
    house = House(net, many, size)
    for prompt in prompts:
        house.step(((house.ask(Ask(prompt, 1)), 60),))
    return house


class WritePaths(Case):
    def test_no_path(self):
        for layers in (0, 2):
            net = some_net(1, layers=layers, letters=3)
            self.assert_same(write_paths(House(net, 3, 2)), "")
            self.assert_same(write_paths(read(net, 9, 4, (0, 1, 2))), "")

    def test_the_example(self):
        rows, line = EXAMPLE
        house = House(some_net(1, layers=1, width=1, letters=3), 5, 2)
        block = house.store.take()
        for row in rows:
            house.store.put_row(block, row)
        house.tree.put((1, 2), block)
        self.assert_same(write_paths(house), line)

    def test_by_hand(self):
        # No layers; the weights of the letter a are 1, but 2 for the one behind it.
        house = read(Net(*COUNTING), 20, 1, (1, 3), (1, 0), (2,))
        lines = ["1:1 1 2 1", "1 0:1 2 1 1", "1 3:2 1 1 1", "2:1 1 1 2"]
        self.assert_same(write_paths(house), "".join(line + "\n" for line in lines))

    def test_two_layers_and_great_letters(self):
        net = some_net(5, prime=97, layers=2, width=3, letters=12)
        house = read(net, 20, 2, (11, 10, 9, 0), (2, 10))
        found = write_paths(house=house).split("\n")
        self.assert_same([line.split(":")[0] for line in found], ["2 10", "11 10", "11 10 9 0", ""])
        for line, letters in zip(found, ((2, 10), (11, 10), (11, 10, 9, 0))):
            rows = []
            for pairs, weights in rows_of(net, letters)[-2:]:
                numbers = [*pairs[0][0], *pairs[0][1], *pairs[1][0], *pairs[1][1], *weights]
                rows.append(" ".join(str(number) for number in numbers))
            self.assert_same(line.split(":")[1], ";".join(rows))

    def test_against_a_slow_house(self):
        longest = 0
        for seed in range(120):
            pair = drawn(self, seed)
            before = whole_state(pair.house)
            found = write_paths(pair.house)
            self.assert_same(found, pair.slow.write_paths())
            self.assertEqual(whole_state(pair.house), before)
            longest = max(longest, max([len(path) // pair.shape[1] for path in pair.house.tree], default=0))
        self.assertGreater(longest, 3)


class Warm(Case):
    def assert_warm(self, house, slow, shelf):
        """Warms copies of both with the shelf; they are the same behind it, and so is what was there."""
        house, slow = copy.deepcopy(house), copy.deepcopy(slow)
        reckoned, free, paths = house.reckoned, house.store.free, list(house.tree)
        held = holders(house)
        found = warm(house, shelf)
        self.assert_same(found, slow.warm(shelf))
        self.assertEqual(all_rows(house), slow.all_rows())
        self.assertEqual(dropped(house), slow.dropped())
        self.assert_same((house.reckoned, house.store.free), (reckoned, free - found))
        self.assert_same(len(house.tree), len(paths) + found)
        self.assert_same(faults(house), ())
        # Of those that were put only the tree is a holder, and no other holders change.
        new = [number for number in range(house.store.many) if holders(house)[number] != held[number]]
        self.assert_same([holders(house)[number] for number in new], [1] * found)
        return house, slow

    def test_every_beginning(self):
        for seed in range(6):
            pair = drawn(self, seed, 12, shape=(9, 1 + seed % 3))
            shelf = write_paths(pair.house)
            other = drawn(self, seed, 3, shape=(9 - seed, 1 + seed % 3))
            for end in range(min(len(shelf), 500) + 1):
                self.assert_warm(other.house, other.slow, shelf[:end])

    def test_beginnings_against_a_slow_house(self):
        done = {}
        for seed in range(150):
            pair = drawn(self, seed)
            # The same net, and often much of the same asks; another number of blocks.
            other = drawn(self, seed, pair.source.randint(0, 15), shape=(pair.source.randint(1, 30), pair.shape[1]))
            shelf = write_paths(pair.house)
            for end in (0, pair.source.randint(0, len(shelf)), len(shelf)):
                house, slow = self.assert_warm(other.house, other.slow, shelf[:end])
            done[len(house.tree) - len(other.house.tree)] = True
            other.house, other.slow = house, slow
            for _ in range(12):
                other.one_call(CALLS + ["serve", "drop"])
                other.check()
            other.check_all()
        self.assertGreater(len(done), 8)

    def test_how_many_and_twice_the_same(self):
        net = some_net(3, layers=1, letters=4)
        shelf = write_paths(read(net, 20, 2, (0, 1, 2, 3, 0), (0, 2, 1, 1), (3, 3, 0)))
        house = House(net, 20, 2)
        self.assert_same(warm(house, shelf), 5)
        self.assert_same(list(house.tree), [(0, 1), (0, 1, 2, 3), (0, 2), (0, 2, 1, 1), (3, 3)])
        self.assert_same((house.store.free, holders(house)[:6]), (15, (1, 1, 1, 1, 1, 0)))
        self.assert_same(write_paths(house), shelf)
        before = whole_state(house)
        self.assert_same(warm(shelf=shelf, house=house), 0)
        self.assertEqual(whole_state(house), before)

    def test_the_end_in_the_middle_of_a_line(self):
        net = some_net(3, layers=1, letters=12, width=2, prime=97)
        shelf = write_paths(read(net, 20, 2, (10, 11, 3, 10), (11, 11)))
        ends = [place + 1 for place, sign in enumerate(shelf) if sign == "\n"]
        self.assert_same(len(ends), 3)
        for end in range(len(shelf) + 1):
            house = House(net, 20, 2)
            self.assert_same(warm(house, shelf[:end]), len([place for place in ends if place <= end]))

    def test_no_free_block(self):
        net = some_net(4, layers=1, letters=4)
        shelf = write_paths(read(net, 20, 2, (0, 1, 2, 3), (1, 1)))
        for many, found in ((1, 0), (2, 1), (3, 2), (4, 3), (5, 3)):
            house = read(net, many, 2, (2, 2))
            before = whole_state(house)
            self.assert_same(warm(house, shelf), found)
            if found == 0:
                # No path is dropped for it.
                self.assertEqual(whole_state(house), before)
            self.assert_same(list(house.tree), ([(0, 1), (0, 1, 2, 3), (1, 1)][:found] + [(2, 2)]))

    def test_blocks_of_going_requests_are_not_free(self):
        net = some_net(4, layers=1, letters=4)
        shelf = write_paths(read(net, 20, 2, (0, 1, 2, 3), (1, 1)))
        house = House(net, 3, 2)
        house.ask(Ask((3, 3, 3), 30))
        house.step(((0, 3),))
        self.assert_same((warm(house, shelf), list(house.tree)), (1, [(0, 1), (3, 3)]))
        self.assert_same(holders(house), (2, 1, 1))

    def test_the_lowest_free_blocks(self):
        net = some_net(4, layers=1, letters=4)
        shelf = write_paths(read(net, 20, 1, (0,), (1,), (2,)))
        house = House(net, 9, 1)
        for prompt in ((3, 1, 3), (2, 2)):
            house.ask(Ask(prompt, 30))
            house.step(((len(house.log()) - 1, len(prompt)),))
        while house.tree.drop():
            continue
        house.cancel(0)
        self.assert_same(holders(house), (1, 1, 1, 2, 2, 0, 0, 0, 0))
        while house.tree.drop():
            continue
        self.assert_same(holders(house), (0, 0, 0, 2, 2, 0, 0, 0, 0))
        self.assert_same(warm(house, shelf), 2)
        self.assert_same([house.store.rows(block) for block in (0, 1)], [(net.row((), 0),), (net.row((), 1),)])

    def test_a_path_whose_beginning_is_missing(self):
        net = some_net(5, layers=2, letters=4)
        shelf = write_paths(read(net, 20, 2, (0, 1, 2, 3, 1, 1), (2, 0)))
        lines = shelf.split("\n")
        house = House(net, 20, 2)
        self.assert_same(warm(house, lines[1] + "\n" + lines[2] + "\n" + lines[3] + "\n"), 1)
        self.assert_same(list(house.tree), [(2, 0)])
        self.assert_same((warm(house, lines[1] + "\n"), warm(house, lines[0] + "\n")), (0, 1))
        self.assert_same((warm(house, lines[2] + "\n"), warm(house, lines[1] + "\n")), (0, 1))
        self.assert_same((warm(house, lines[2] + "\n"), write_paths(house)), (1, shelf))

    def test_last_uses(self):
        net = some_net(6, layers=1, letters=4)
        shelf = write_paths(read(net, 20, 1, (0, 1), (0, 2), (3,)))

        def order(house):
            gone = dropped(house)
            return gone[:gone.index("cancelled")]

        # Each path that is put is used, and so are its beginnings; looking whether one is there is no use.
        house = read(net, 20, 1, (0, 1), (2,))
        self.assert_same(order(house), [(0, 1), (0,), (2,)])
        self.assert_same(warm(house, shelf), 2)
        self.assert_same(order(house), [(0, 1), (2,), (0, 2), (0,), (3,)])
        self.assert_same(warm(house, shelf), 0)
        self.assert_same(order(house), [(0, 1), (2,), (0, 2), (0,), (3,)])

    def test_no_layers_up_to_three(self):
        for layers in range(4):
            for width in range(1, 5):
                net = some_net(layers, layers=layers, width=width, letters=4)
                read_there = read(net, 20, 2, (0, 1, 2, 3), (3, 3))
                house = House(net, 20, 2)
                self.assert_same((warm(house, write_paths(read_there)), faults(house)), (3, ()))
                wanted = [rows_of(net, path)[-2:] for path in ((0, 1), (0, 1, 2, 3), (3, 3))]
                self.assert_same([house.store.rows(block) for block in range(3)], wanted)

    def test_the_rows_of_the_example_are_kept(self):
        rows, line = EXAMPLE
        house = House(some_net(1, layers=1, width=1, letters=3), 5, 2)
        self.assert_same((warm(house, line), house.store.rows(0)), (1, rows))
        self.assert_same((list(house.tree), house.store.free, house.store.holders(0)), ([(1, 2)], 4, 1))

    def test_texts_stay(self):
        for seed in range(80):
            pair = drawn(self, seed, 10, shape=(60, 1 + seed % 4))
            source, net = pair.source, pair.net
            asks = [some_served(source, pair.letters, 6, 12) for _ in range(6)]
            writer = House(net, 60, pair.shape[1])
            for ask in asks[:4]:
                writer.ask(ask)
                writer.step([[ticket, 9] for ticket in writer.going()])
            shelf = write_paths(writer)
            cold, house = copy.deepcopy(pair.house), pair.house
            warm(house, shelf[:source.randint(0, len(shelf))])
            begun = len(house.log())
            for ask in asks:
                cold.ask(ask)
                house.ask(ask)
                warm(house, shelf)
            self.assert_same(house.reckoned, cold.reckoned)
            serve(house)
            serve(cold)
            for ticket in range(len(house.log())):
                self.assert_same((house.text(ticket), house.word(ticket)), (cold.text(ticket), cold.word(ticket)))
            for number, ask in enumerate(asks):
                ticket = begun + number
                self.assert_same((house.text(ticket), house.word(ticket)), written(net, ask))
            self.assert_same(faults(house), ())

    def test_what_was_put_is_not_reckoned_again(self):
        net = Net(*EVEN)
        house = House(net, 20, 1)
        shelf = write_paths(read(net, 20, 1, (1, 2, 1)))
        self.assert_same((warm(house, shelf), house.reckoned), (3, 0))
        house.ask(Ask((1, 2, 1), 1))
        self.assert_same((house.step(((0, 3),)), house.text(0), house.reckoned), ((0,), (3,), 0))
