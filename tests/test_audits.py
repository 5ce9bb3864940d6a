"""[24]: audits."""

import copy
import random

from servedalone.asks import Ask
from servedalone.audits import blocks_together, distinct, faults, holders
from servedalone.beams import beams_in
from servedalone.fleets import Fleet
from servedalone.guesses import lesser_guesses
from servedalone.houses import House
from servedalone.nets import Net
from servedalone.planners import serve
from tests.helpers import EVEN, Case, as_lists, dropped, parts_of_net, seen, some_row, whole_state
from tests.pairs import CALLS, Pair, some_parts, some_served

PARTS = parts_of_net(random.Random(3), letters=4, width=2, layers=1)


def counted(house):
    """The holders that the store tells of."""
    return tuple(house.store.holders(block) for block in range(house.store.many))


class Untouched(Case):
    def test_an_empty_house(self):
        for many in (1, 60):
            house = House(Net(*PARTS), many, 3)
            self.assert_same((holders(house), faults(house)), ((0,) * many, ()))

    def test_by_hand(self):
        house = House(Net(*PARTS), 6, 2)
        for _ in range(2):
            house.ask(Ask((1, 2, 3, 3), 9))
        house.step(((0, 3), (1, 1)))
        self.assert_same(self.assert_keeps(holders, house), (3, 1, 0, 0, 0, 0))
        house.fork(0, ())
        self.assert_same((holders(house=house), faults(house=house)), ((4, 2, 0, 0, 0, 0), ()))
        house.cancel(1)
        house.swap_out(0)
        self.assert_same((holders(house), faults(house)), ((2, 1, 0, 0, 0, 0), ()))

    def test_behind_long_rows_of_calls(self):
        for seed in range(60):
            pair = Pair(self, seed)
            for _ in range(60):
                pair.one_call(CALLS + ["serve", "come_back"])
                self.assert_same(holders(pair.house), pair.slow.seen()[3])
                self.assert_same(faults(pair.house), ())
            pair.check_all()

    def test_behind_guesses_beams_serving_and_moves(self):
        for seed in range(30):
            source = random.Random(seed)
            parts = some_parts(source)
            fleet = Fleet(Net(*parts), ((30, 2), (18, 3)))
            for _ in range(6):
                fleet.ask(some_served(source, len(parts[1]), 6, 9))
            for _ in range(20):
                ticket = source.randrange(6)
                number, there = fleet.place(ticket)
                house = fleet.house(number)
                house.step(((there, source.randint(0, 6)),))
                house.guess(there, lesser_guesses(house, there, house.net, 3))
                if house.store.free >= 24:
                    beams_in(house, (0, 0), 2, 3)
                fleet.move(ticket, source.randrange(2))
                if source.random() < 0.1:
                    fleet.fall(source.randrange(2))
                for house in (fleet.house(0), fleet.house(1)):
                    self.assert_same((holders(house), faults(house)), (counted(house), ()))
            for number in range(2):
                serve(fleet.house(number))
                self.assert_same(faults(fleet.house(number)), ())

    def test_nothing_is_changed(self):
        for seed in range(20):
            pair = Pair(self, seed)
            for _ in range(40):
                pair.one_call()
            before = whole_state(pair.house)
            faults(pair.house)
            holders(pair.house)
            self.assertEqual(whole_state(pair.house), before)

    def test_no_last_use_either(self):
        house = House(Net(*PARTS), 9, 1)
        for letter in (2, 3, 1):
            house.ask(Ask((letter,), 1))
        house.step(((0, 1), (1, 1), (2, 1)))
        faults(house)
        holders(house)
        self.assert_same(dropped(house)[:3], [(2,), (3,), (1,)])


class Damaged(Case):
    """A house whose store was changed from outside.

    Request 0 has blocks 0, 1, 2 and 5 rows; 0 and 1 are in the tree. Request 1 has blocks 0 and 3 and 3 rows. Block 4
    is in the tree alone, and block 5 is free.
    """

    def setUp(self):
        self.house = House(Net(*PARTS), 6, 2)
        self.store = self.house.store
        for prompt, most in (((1, 2, 3, 0, 1), 9), ((1, 2, 0), 9), ((3, 3), 1)):
            self.house.ask(Ask(prompt, most))
        self.house.step(((0, 5), (1, 2)))
        self.house.step(((2, 2),))
        self.assert_same(counted(self.house), (3, 2, 1, 1, 1, 0))
        self.assert_same((self.house.blocks_of(0), self.house.blocks_of(1)), ((0, 1, 2), (0, 3)))

    def assert_faults(self, *words):
        before = seen(self.house), copy.deepcopy(vars(self.house.tree))["_used"]
        self.assert_same(faults(self.house), words)
        self.assert_same(holders(self.house), (3, 2, 1, 1, 1, 0))
        self.assertEqual((seen(self.house), vars(self.house.tree)["_used"]), before)

    def test_untouched(self):
        self.assert_faults()

    def test_a_block_held(self):
        for block in range(5):
            self.setUp()
            self.store.hold(block)
            self.assert_faults("count")

    def test_a_block_taken(self):
        self.assert_same(self.store.take(), 5)
        self.assert_faults("count")

    def test_a_block_taken_and_released(self):
        self.store.release(self.store.take())
        self.assert_faults()

    def test_a_block_released_that_others_hold_yet(self):
        self.store.release(0)
        self.assert_faults("count")

    def test_a_block_released_for_good(self):
        self.store.release(2)
        self.assert_faults("count", "rows")
        self.setUp()
        self.store.release(4)
        self.assert_faults("count", "paths")
        self.setUp()
        self.store.release(1)
        self.store.release(1)
        self.assert_faults("count", "rows", "paths")

    def test_a_block_released_and_taken_by_others(self):
        self.store.release(2)
        self.assert_same(self.store.take(), 2)
        self.assert_faults("rows")
        self.store.put_row(2, some_row(2))
        self.assert_faults("rows")
        self.setUp()
        self.store.release(4)
        self.store.take()
        self.assert_faults("paths")

    def test_a_block_shortened(self):
        self.store.shorten(2, 0)
        self.assert_faults("rows")
        self.setUp()
        self.store.shorten(4, 1)
        self.assert_faults("paths")
        self.setUp()
        self.store.release(1)
        self.store.shorten(1, 1)
        self.store.hold(1)
        self.assert_faults("rows", "paths")

    def test_a_block_given_a_row(self):
        # The row is behind those that belong to the table.
        self.store.put_row(3, some_row(1))
        self.assert_faults()
        self.store.shorten(3, 0)
        self.store.put_row(3, some_row(1))
        self.assert_faults("rows")
        self.setUp()
        self.store.shorten(4, 1)
        self.store.put_row(4, some_row(1))
        self.assert_faults("paths")

    def test_rows_of_other_letters(self):
        rows = self.store.rows(4)
        self.store.shorten(4, 0)
        for row in reversed(rows):
            self.store.put_row(4, row)
        self.assert_faults("paths")
        self.store.shorten(4, 0)
        for row in rows:
            self.store.put_row(4, row)
        self.assert_faults()

    def test_all_at_once(self):
        self.store.hold(0)
        self.store.shorten(3, 0)
        self.store.shorten(4, 1)
        self.assert_faults("count", "rows", "paths")

    def test_a_beginning_that_is_no_path(self):
        tree = self.house.tree
        # No call of the package takes a beginning out, so it is done by hand.
        self.assert_same(list(tree), [(1, 2), (1, 2, 3, 0), (3, 3)])
        self.take_out((1, 2))
        self.assert_same(faults(self.house), ("count", "open"))
        self.store.release(0)
        self.assert_same((faults(self.house), holders(self.house)[0]), (("open",), 2))
        self.store.shorten(2, 0)
        self.assert_same(faults(self.house), ("rows", "open"))
        self.store.hold(2)
        self.assert_same(faults(self.house), ("count", "rows", "open"))
        self.store.shorten(4, 0)
        self.assert_same(faults(self.house), ("count", "rows", "paths", "open"))
        self.take_out((1, 2, 3, 0))
        self.assert_same(faults(self.house), ("count", "rows", "paths"))

    def test_a_path_between_others_that_is_gone(self):
        self.house = House(Net(*PARTS), 6, 1)
        self.house.ask(Ask((1, 2, 3), 1))
        self.house.step(((0, 3),))
        for path, word in (((1, 2), "open"), ((1, 2, 3), None), ((1,), None)):
            self.take_out(path)
            self.assert_same(faults(self.house), tuple(one for one in ("count", word) if one))

    def take_out(self, path):
        tree = self.house.tree
        del tree._blocks[path]
        tree._paths = tuple(other for other in tree._paths if other != path)

    def test_blocks_of_another_size(self):
        self.store.size = 1
        # Each path is two letters long, and the beginnings of one letter are none.
        self.assert_same(faults(self.house), ("rows", "paths", "open"))
        self.store.size = 4
        self.assert_same(faults(self.house), ("rows", "paths"))

    def test_rows_of_which_there_is_no_block(self):
        # All rows of this net are equal, so that only their number tells that one is not there.
        house = House(Net(*EVEN[:5], None), 4, 2)
        house.ask(Ask((1, 1, 1), 9))
        house.step(((0, 3),))
        house.store.size = 1
        self.assert_same(faults(house), ("rows", "paths", "open"))
        house.store.size = 2
        self.assert_same(faults(house), ())

    def test_each_single_change_is_found(self):
        for seed in range(60):
            pair = Pair(self, seed, shape=(6, 1 + seed % 3))
            for _ in range(30):
                pair.one_call()
            store, source = pair.house.store, pair.source
            block = source.randrange(6)
            held = store.holders(block)
            if held == 0:
                store.take()
                self.assert_same(faults(pair.house), ("count",))
            elif source.random() < 0.5:
                store.hold(block)
                self.assert_same(faults(pair.house), ("count",))
            else:
                store.release(block)
                self.assertIn("count", faults(pair.house))
                if held > 1:
                    store.hold(block)
                    self.assert_same(faults(pair.house), ())


class Distinct(Case):
    def test_by_hand(self):
        for rows, many in (
            ((), 0), (((),), 0), (((1,),), 1), (((1, 2, 3),), 3), (((1, 2, 3), (1, 2, 3)), 3),
            (((1, 2, 3), (1, 2, 4)), 4), (((1, 2, 3), (2, 3)), 5), (((1, 2), (1, 2, 3), (1,), ()), 3),
            (((1, 1), (1, 1, 1)), 3),
        ):
            self.assert_same(self.assert_keeps(distinct, rows), many)
            self.assert_same(distinct(rows=as_lists(rows)), many)

    def test_against_a_house_with_blocks_of_one_row(self):
        calls = ["ask", "step", "step", "step", "put_off", "swap_out", "swap_in", "fork", "cancel", "deliver"]
        for seed in range(60):
            pair = Pair(self, seed, shape=(60, 1))
            for _ in range(40):
                pair.one_call(calls)
                if pair.house.store.free < 25:
                    break
            # What a request has read is told by the slow house, which keeps all rows that it ever reckoned.
            self.assertEqual(dropped_paths(pair), 0)
            self.assert_same(pair.house.reckoned, distinct(list(pair.slow.memo)))

    def test_by_the_letters_of_the_requests(self):
        house = House(Net(*PARTS), 60, 1)
        for prompt in ((1, 2, 3), (1, 2, 0), (1, 2), (3, 1)):
            house.ask(Ask(prompt, 5))
        house.step(((2, 2), (0, 60), (1, 60), (3, 60), (2, 60)))
        # The last letter that is written is not read.
        read = [prompt + house.text(ticket)[:4] for ticket, prompt in enumerate(((1, 2, 3), (1, 2, 0), (1, 2), (3, 1)))]
        self.assert_same((house.reckoned, distinct(read)), (distinct(read), house.reckoned))


def dropped_paths(pair):
    """How many of the rows that were reckoned are not in the tree."""
    return len([letters for letters in pair.slow.memo if letters not in dict(pair.slow.paths)])


class BlocksTogether(Case):
    def test_by_hand(self):
        for rows, size, many in (
            ((), 2, 0), (((),), 2, 0), (((1,),), 2, 1), (((1, 2),), 2, 1), (((1, 2, 3),), 2, 2),
            (((1, 2, 3), (1, 2, 3)), 2, 3), (((1, 2, 3, 4), (1, 2, 3, 4)), 2, 2),
            (((1, 2, 3, 4), (1, 2, 4, 4)), 2, 3), (((1, 2), (1, 2, 3), ()), 2, 2),
            (((1, 2, 3), (1, 2)), 1, 3), (((1, 2, 3), (1, 2), (1, 2)), 4, 3), (((1,) * 8, (1,) * 9), 8, 2),
        ):
            self.assert_same(self.assert_keeps(blocks_together, rows, size), many)
            self.assert_same(blocks_together(size=size, rows=as_lists(rows)), many)

    def test_of_blocks_of_one_row_it_is_distinct(self):
        for seed in range(50):
            source = random.Random(seed)
            lengths = [source.randint(0, 9) for _ in range(source.randint(0, 9))]
            rows = [tuple(source.randrange(2) for _ in range(length)) for length in lengths]
            self.assert_same(blocks_together(rows, 1), distinct(rows))

    def test_against_houses(self):
        compared = 0
        for seed in range(60):
            source = random.Random(seed)
            parts = some_parts(source)
            size = source.randint(1, 8)
            house = House(Net(*parts[:5], None), 60, size)
            asks = []
            for _ in range(source.randint(1, 8)):
                ask = some_served(source, len(parts[1]), 20)
                asks.append(Ask(ask.prompt, 30, tape=ask.tape))
                house.ask(asks[-1])
            for _ in range(10):
                ended = house.step([(source.randrange(len(asks)), 1) for _ in range(4)])
                if ended or house.store.free < 5:
                    break
                rows = []
                for ticket, ask in enumerate(asks):
                    rows.append((ask.prompt + house.text(ticket))[:house.length_of(ticket)])
                self.assert_same(60 - house.store.free, blocks_together(rows, size))
                self.assert_same(house.going(), tuple(range(len(asks))))
                compared += len(set(rows)) < len(rows)
        self.assertGreater(compared, 50)
