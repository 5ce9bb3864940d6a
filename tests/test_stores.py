"""[10]: stores."""

import random

from servedalone.errors import InvalidNumber, NoRoom, NotAlone, NotHeld
from servedalone.plain import rows_of
from servedalone.stores import Store
from tests.helpers import Case, as_lists, full_block, some_net, some_row, spoil, state_of, wrong_numbers


class Shapes(Case):
    def test_all_blocks_are_free(self):
        for many, size in ((1, 1), (1, 8), (60, 1), (60, 8), (7, 3)):
            store = Store(many, size)
            self.assert_same((store.many, store.size, store.free), (many, size, many))
            self.assert_same([store.holders(block) for block in range(many)], [0] * many)
        self.assertIsInstance(Store.free, property)

    def test_names(self):
        store = Store(size=2, many=5)
        self.assert_same((store.many, store.size), (5, 2))

    def test_no_number_of_blocks(self):
        for many in wrong_numbers(1, 60):
            self.assert_fails(InvalidNumber, {"number": many}, Store, many, 4)

    def test_no_number_of_rows(self):
        for size in wrong_numbers(1, 8):
            self.assert_fails(InvalidNumber, {"number": size}, Store, 4, size)

    def test_both_wrong(self):
        for many in wrong_numbers(1, 60):
            for size in wrong_numbers(1, 8):
                self.assert_fails(InvalidNumber, {"number": many}, Store, many, size)
        self.assert_fails(InvalidNumber, {"number": None}, Store, size=9, many=None)


class TakeHoldRelease(Case):
    def test_the_lowest_free_block(self):
        store = Store(4, 2)
        self.assert_same([store.take() for _ in range(4)], [0, 1, 2, 3])
        for block in (3, 1, 2):
            self.assertIs(store.release(block), None)
        self.assert_same((store.take(), store.free), (1, 2))
        store.release(0)
        self.assert_same([store.take(), store.take(), store.take(), store.free], [0, 2, 3, 0])

    def test_a_block_taken_has_one_holder_and_no_rows(self):
        store = Store(2, 2)
        block = store.take()
        self.assert_same(state_of(store), (2, 2, 1, (1, 0), ((), None)))
        self.assert_same((store.holders(block), store.rows(block)), (1, ()))

    def test_no_block_is_free(self):
        for many in (1, 3, 60):
            store = Store(many, 1)
            for _ in range(many):
                store.take()
            before = state_of(store)
            self.assert_fails(NoRoom, {"many": 1}, store.take)
            self.assert_same(state_of(store), before)

    def test_holders_are_counted(self):
        store = Store(3, 2)
        store.take()
        block = full_block(store, (5, 6))
        self.assertIs(store.hold(block), None)
        store.hold(block)
        self.assert_same((store.holders(block), store.free), (3, 1))
        store.release(block)
        store.release(block)
        self.assert_same((store.holders(block), store.rows(block)), (1, (some_row(5), some_row(6))))
        store.release(block)
        self.assert_same((store.holders(block), store.free), (0, 2))

    def test_rows_are_gone_with_the_last_holder(self):
        store = Store(1, 2)
        block = full_block(store, (5, 6))
        store.release(block)
        self.assert_fails(NotHeld, {"block": block}, store.rows, block)
        self.assert_same((store.take(), store.rows(block)), (0, ()))
        store.put_row(block, some_row(7))
        self.assert_same(store.rows(block), (some_row(7),))


class Rows(Case):
    def test_one_after_the_other(self):
        for size in (1, 2, 8):
            store = Store(2, size)
            block = store.take()
            for number in range(size):
                self.assertIs(store.put_row(block, some_row(number)), None)
                self.assert_same(store.rows(block), tuple(some_row(less) for less in range(number + 1)))

    def test_rows_of_nets_as_tuples_and_as_lists(self):
        for layers in range(4):
            rows = rows_of(some_net(layers, letters=2, layers=layers), (0, 1, 1))
            store = Store(1, 8)
            store.take()
            for row in rows:
                passed = as_lists(row)
                self.assert_keeps(store.put_row, 0, row)
                self.assert_keeps(store.put_row, 0, passed)
                spoil(passed)
            self.assert_same(store.rows(0), tuple(row for row in rows for _ in range(2)))

    def test_what_rows_gave_stays(self):
        store = Store(1, 3)
        block = full_block(store, (1, 2))
        found = store.rows(block)
        store.put_row(block, some_row(3))
        store.shorten(block, 0)
        store.release(block)
        self.assert_same(found, (some_row(1), some_row(2)))

    def test_shorten(self):
        for many in range(4):
            store = Store(2, 3)
            block = full_block(store, (4, 5, 6))
            self.assertIs(store.shorten(block, many), None)
            self.assert_same(store.rows(block), (some_row(4), some_row(5), some_row(6))[:many])
            self.assert_same((store.holders(block), store.free), (1, 1))

    def test_shortened_and_put_again(self):
        store = Store(2, 3)
        block = full_block(store, (4, 5, 6))
        store.shorten(many=1, block=block)
        store.put_row(row=some_row(7), block=block)
        self.assert_same(store.rows(block=block), (some_row(4), some_row(7)))
        self.assert_same(store.holders(block=block), 1)


class Refused(Case):
    def setUp(self):
        # Block 0 has one row and one holder, 1 is full, 2 is full with two holders, 3 has two holders and one row.
        self.store = Store(6, 2)
        full_block(self.store, (1,))
        full_block(self.store, (1, 2))
        self.store.hold(full_block(self.store, (3, 4)))
        self.store.hold(full_block(self.store, (5,)))

    def assert_refused(self, error, values, call, *arguments):
        before = state_of(self.store)
        self.assert_fails(error, values, call, *arguments)
        self.assert_same(state_of(self.store), before)

    def test_not_held(self):
        store, row = self.store, some_row(9)
        for block in [4, 5, 6, 60] + wrong_numbers(0, 5):
            self.assert_refused(NotHeld, {"block": block}, store.hold, block)
            self.assert_refused(NotHeld, {"block": block}, store.release, block)
            self.assert_refused(NotHeld, {"block": block}, store.put_row, block, row)
            self.assert_refused(NotHeld, {"block": block}, store.rows, block)
            for many in (0, 1, 9, None):
                self.assert_refused(NotHeld, {"block": block}, store.shorten, block, many)

    def test_no_block_has_no_holders(self):
        for block in wrong_numbers(0, 5):
            self.assert_refused(NotHeld, {"block": block}, self.store.holders, block)
        self.assert_same([self.store.holders(block) for block in range(6)], [1, 1, 2, 2, 0, 0])

    def test_not_alone_goes_before_the_others(self):
        for block in (2, 3):
            self.assert_refused(NotAlone, {"block": block}, self.store.put_row, block, some_row(9))
            for many in [0, 1, 2] + wrong_numbers(0, 2):
                self.assert_refused(NotAlone, {"block": block}, self.store.shorten, block, many)

    def test_full(self):
        self.assert_refused(NoRoom, {"many": 1}, self.store.put_row, 1, some_row(9))

    def test_no_number_of_its_rows(self):
        for many in wrong_numbers(0, 1):
            self.assert_refused(InvalidNumber, {"number": many}, self.store.shorten, 0, many)
        for many in wrong_numbers(0, 2):
            self.assert_refused(InvalidNumber, {"number": many}, self.store.shorten, 1, many)

    def test_alone_again(self):
        self.store.release(3)
        self.store.put_row(3, some_row(6))
        self.assert_same(self.store.rows(3), (some_row(5), some_row(6)))
        self.store.release(2)
        self.assert_refused(NoRoom, {"many": 1}, self.store.put_row, 2, some_row(9))
        self.store.shorten(2, 1)
        self.assert_same(self.store.rows(2), (some_row(3),))


class SideBySide(Case):
    def test_two_stores_keep_apart(self):
        one, other = Store(2, 2), Store(3, 1)
        full_block(one, (1, 2))
        before = state_of(other)
        one.hold(0)
        self.assert_same(state_of(other), before)
        full_block(other, (7,))
        self.assert_same(state_of(one), (2, 2, 1, (2, 0), ((some_row(1), some_row(2)), None)))
        self.assert_same(state_of(other), (3, 1, 2, (1, 0, 0), ((some_row(7),), None, None)))

    def test_many_calls_against_plain_lists(self):
        for seed in range(30):
            source = random.Random(seed)
            many, size = source.choice([1, 3, 60]), source.choice([1, 2, 8])
            store = Store(many, size)
            held, rows = [0] * many, [()] * many
            for number in range(150):
                self.one_call(source, store, held, rows, number)
                found = tuple(rows[block] if held[block] else None for block in range(many))
                self.assert_same(state_of(store), (many, size, held.count(0), tuple(held), found))

    def one_call(self, source, store, held, rows, number):
        block = source.randrange(min(store.many, 6))
        call = source.choice(["take", "hold", "release", "release", "put_row", "put_row", "shorten"])
        if call == "take" and 0 in held:
            block = held.index(0)
            self.assert_same(store.take(), block)
            held[block] = 1
        elif call == "hold" and held[block]:
            store.hold(block)
            held[block] += 1
        elif call == "release" and held[block]:
            store.release(block)
            held[block] -= 1
            rows[block] = rows[block] if held[block] else ()
        elif call == "put_row" and held[block] == 1 and len(rows[block]) < store.size:
            store.put_row(block, some_row(number))
            rows[block] += (some_row(number),)
        elif call == "shorten" and held[block] == 1:
            many = source.randint(0, len(rows[block]))
            store.shorten(block, many)
            rows[block] = rows[block][:many]
