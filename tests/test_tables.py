"""[11]: tables."""

import random

from servedalone.errors import InvalidNumber, NoRoom
from servedalone.stores import Store
from servedalone.tables import Table
from tests.helpers import Case, as_lists, full_block, some_row, spoil, state_of, wrong_numbers


def rows_from(*numbers):
    return tuple(some_row(number) for number in numbers)


def filled(store, *numbers):
    """A table with the rows of these numbers."""
    table = Table(store)
    for number in numbers:
        table.put_row(some_row(number))
    return table


class TableCase(Case):
    def assert_table(self, table, blocks, *numbers):
        self.assert_same((table.blocks, table.length), (blocks, len(numbers)))
        self.assert_same(table.rows(), rows_from(*numbers))

    def assert_holders(self, store, *held):
        self.assert_same(tuple(store.holders(block) for block in range(store.many)), held)
        self.assert_same(store.free, held.count(0))


class PutRow(TableCase):
    def test_empty(self):
        store = Store(2, 2)
        self.assert_table(Table(store), ())
        self.assert_table(Table(store=store), ())
        self.assert_holders(store, 0, 0)

    def test_until_no_block_is_free(self):
        for many, size in ((1, 1), (1, 8), (3, 2), (60, 1), (5, 8)):
            store = Store(many, size)
            table = Table(store)
            for number in range(many * size):
                self.assertIs(table.put_row(some_row(number)), None)
                self.assert_table(table, tuple(range(number // size + 1)), *range(number + 1))
                self.assert_same(store.free, many - number // size - 1)
            before = state_of(store)
            self.assert_fails(NoRoom, {"many": 1}, table.put_row, some_row(0))
            self.assert_table(table, tuple(range(many)), *range(many * size))
            self.assert_same(state_of(store), before)

    def test_rows_as_lists(self):
        table = Table(Store(2, 2))
        row = as_lists(some_row(4))
        self.assert_keeps(table.put_row, row)
        spoil(row)
        table.put_row(row=as_lists(some_row(5)))
        self.assert_table(table, (0,), 4, 5)

    def test_the_lowest_free_block_comes_next(self):
        store = Store(4, 1)
        for _ in range(3):
            store.take()
        store.release(1)
        self.assert_table(filled(store, 7, 8), (1, 3), 7, 8)
        self.assert_holders(store, 1, 1, 1, 1)

    def test_what_rows_gave_stays(self):
        table = filled(Store(2, 2), 1, 2)
        found = table.rows(), table.blocks
        table.put_row(some_row(3))
        table.cut(0)
        self.assert_same(found, (rows_from(1, 2), (0,)))


class Cut(TableCase):
    def test_to_each_length_and_put_again(self):
        for size in (1, 2, 3, 8):
            for length in range(0, 10):
                for many in range(length + 1):
                    store = Store(10, size)
                    table = filled(store, *range(length))
                    self.assertIs(table.cut(many), None)
                    blocks = tuple(range((many + size - 1) // size))
                    self.assert_table(table, blocks, *range(many))
                    self.assert_holders(store, *[int(block in blocks) for block in range(10)])
                    table.put_row(some_row(77))
                    self.assert_table(table, tuple(range(many // size + 1)), *range(many), 77)
                    self.assert_same(sum(len(store.rows(block)) for block in table.blocks), many + 1)

    def test_the_last_block_that_stays_keeps_its_rows(self):
        store = Store(3, 3)
        table = filled(store, 0, 1, 2, 3, 4)
        table.cut(4)
        self.assert_same(store.rows(1), rows_from(3, 4))
        table.cut(2)
        self.assert_same(store.rows(0), rows_from(0, 1, 2))
        self.assert_holders(store, 1, 0, 0)
        table.put_row(some_row(9))
        self.assert_same(store.rows(0), rows_from(0, 1, 9))

    def test_all_of_it_changes_nothing(self):
        store = Store(3, 2)
        table = filled(store, 0, 1, 2)
        before = state_of(store)
        table.cut(many=3)
        self.assert_table(table, (0, 1), 0, 1, 2)
        self.assert_same(state_of(store), before)

    def test_twice(self):
        table = filled(Store(3, 2), 0, 1, 2)
        table.cut(2)
        table.cut(1)
        table.cut(1)
        self.assert_table(table, (0,), 0)
        self.assert_fails(InvalidNumber, {"number": 2}, table.cut, 2)

    def test_no_number_of_its_rows(self):
        store = Store(3, 2)
        for length in (0, 1, 2, 5):
            table = filled(store, *range(length))
            before = state_of(store)
            for many in wrong_numbers(0, length):
                self.assert_fails(InvalidNumber, {"number": many}, table.cut, many)
            self.assert_table(table, tuple(range((length + 1) // 2)), *range(length))
            self.assert_same(state_of(store), before)
            table.cut(0)

    def test_a_last_block_that_others_hold(self):
        store = Store(4, 3)
        table = filled(store, 0, 1, 2, 3, 4)
        other = table.fork()
        table.cut(4)
        table.put_row(some_row(9))
        self.assert_table(table, (0, 2), 0, 1, 2, 3, 9)
        self.assert_same(store.rows(2), rows_from(3, 9))
        self.assert_table(other, (0, 1), 0, 1, 2, 3, 4)
        self.assert_holders(store, 2, 1, 1, 0)

    def test_released_blocks_stay_with_others(self):
        store = Store(4, 1)
        table = filled(store, 0, 1, 2)
        other = table.fork()
        table.cut(1)
        self.assert_holders(store, 2, 1, 1, 0)
        self.assert_table(other, (0, 1, 2), 0, 1, 2)


class LastFirst(TableCase):
    def test_blocks_are_released_from_the_last_on(self):
        released = []

        class Watched(Store):
            def release(self, block):
                released.append(block)
                Store.release(self, block)

        filled(Watched(5, 2), *range(9)).cut(1)
        self.assert_same(released, [4, 3, 2, 1])


class Fork(TableCase):
    def test_the_same_blocks_held_once_more(self):
        store = Store(4, 2)
        table = filled(store, 0, 1, 2)
        other = table.fork()
        self.assertIsInstance(other, Table)
        self.assertIsNot(other, table)
        self.assert_table(other, (0, 1), 0, 1, 2)
        self.assert_table(table, (0, 1), 0, 1, 2)
        self.assert_holders(store, 2, 2, 0, 0)
        table.fork()
        self.assert_holders(store, 3, 3, 0, 0)

    def test_of_an_empty_table(self):
        store = Store(2, 2)
        self.assert_table(Table(store).fork(), ())
        self.assert_holders(store, 0, 0)

    def test_they_write_apart(self):
        store = Store(5, 2)
        table = filled(store, 0, 1, 2)
        other = table.fork()
        table.put_row(some_row(3))
        self.assert_table(table, (0, 2), 0, 1, 2, 3)
        self.assert_holders(store, 2, 1, 1, 0, 0)
        other.put_row(some_row(8))
        self.assert_table(other, (0, 1), 0, 1, 2, 8)
        other.put_row(some_row(9))
        table.put_row(some_row(4))
        self.assert_table(other, (0, 1, 3), 0, 1, 2, 8, 9)
        self.assert_table(table, (0, 2, 4), 0, 1, 2, 3, 4)
        self.assert_holders(store, 2, 1, 1, 1, 1)

    def test_behind_a_full_block_nothing_is_exchanged(self):
        store = Store(4, 2)
        table = filled(store, 0, 1)
        other = table.fork()
        other.put_row(some_row(5))
        table.put_row(some_row(6))
        self.assert_table(other, (0, 1), 0, 1, 5)
        self.assert_table(table, (0, 2), 0, 1, 6)
        self.assert_holders(store, 2, 1, 1, 0)

    def test_of_a_table_that_was_cut(self):
        store = Store(4, 3)
        table = filled(store, 0, 1, 2)
        table.cut(1)
        other = table.fork()
        self.assert_table(other, (0,), 0)
        other.put_row(some_row(7))
        self.assert_table(other, (1,), 0, 7)
        self.assert_same(store.rows(0), rows_from(0, 1, 2))
        table.put_row(some_row(8))
        self.assert_table(table, (0,), 0, 8)
        self.assert_same(store.rows(0), rows_from(0, 8))
        self.assert_holders(store, 1, 1, 0, 0)

    def test_no_room_for_a_block_of_its_own(self):
        store = Store(2, 2)
        table = filled(store, 0, 1, 2)
        other = table.fork()
        before = state_of(store)
        for one in (table, other):
            self.assert_fails(NoRoom, {"many": 1}, one.put_row, some_row(9))
            self.assert_table(one, (0, 1), 0, 1, 2)
        self.assert_same(state_of(store), before)
        other.cut(2)
        table.put_row(some_row(9))
        self.assert_table(table, (0, 1), 0, 1, 2, 9)


class TakeOver(TableCase):
    def test_the_block_comes_behind(self):
        store = Store(5, 2)
        block = full_block(store, (5, 6))
        table = Table(store)
        self.assertIs(table.take_over(block), None)
        self.assert_table(table, (0,), 5, 6)
        self.assert_holders(store, 2, 0, 0, 0, 0)
        table.take_over(block=full_block(store, (7, 8)))
        self.assert_table(table, (0, 1), 5, 6, 7, 8)
        table.put_row(some_row(9))
        self.assert_table(table, (0, 1, 2), 5, 6, 7, 8, 9)
        self.assert_holders(store, 2, 2, 1, 0, 0)
        table.cut(0)
        self.assert_holders(store, 1, 1, 0, 0, 0)

    def test_cut_into_a_block_that_was_taken_over(self):
        store = Store(3, 2)
        block = full_block(store, (5, 6))
        table = Table(store)
        table.take_over(block)
        table.cut(1)
        table.put_row(some_row(9))
        self.assert_table(table, (1,), 5, 9)
        self.assert_same(store.rows(block), rows_from(5, 6))
        self.assert_holders(store, 1, 1, 0)


class ExchangeLast(TableCase):
    def test_the_last_one_is_released(self):
        store = Store(4, 2)
        twin = full_block(store, (2, 3))
        table = filled(store, 0, 1, 2, 3)
        self.assertIs(table.exchange_last(twin), None)
        self.assert_table(table, (1, 0), 0, 1, 2, 3)
        self.assert_holders(store, 2, 1, 0, 0)

    def test_the_only_block(self):
        store = Store(3, 1)
        table = filled(store, 4)
        table.exchange_last(block=full_block(store, (4,)))
        self.assert_table(table, (1,), 4)
        self.assert_holders(store, 0, 2, 0)

    def test_the_very_same_block(self):
        store = Store(3, 2)
        table = filled(store, 0, 1, 2, 3)
        before = state_of(store)
        table.exchange_last(1)
        self.assert_table(table, (0, 1), 0, 1, 2, 3)
        self.assert_same(state_of(store), before)

    def test_a_last_block_that_others_hold(self):
        store = Store(3, 1)
        table = filled(store, 0)
        other = table.fork()
        table.exchange_last(full_block(store, (0,)))
        self.assert_table(table, (1,), 0)
        self.assert_table(other, (0,), 0)
        self.assert_holders(store, 1, 2, 0)


class ManyCalls(TableCase):
    def test_against_plain_lists(self):
        refused = 0
        for seed in range(60):
            source = random.Random(seed)
            store = Store(source.choice([1, 4, 9, 30]), source.choice([1, 2, 3, 8]))
            tables = [(Table(store), [])]
            for number in range(120):
                refused += self.one_call(source, store, tables, number)
                self.assert_all(store, tables)
        self.assertGreater(refused, 100)

    def one_call(self, source, store, tables, number):
        """One call on a table, and the same on its list of numbers; whether it was refused."""
        table, numbers = source.choice(tables)
        call = source.choice(["put", "put", "put", "put", "cut", "fork", "take_over"])
        if call == "put":
            before = state_of(store)
            try:
                table.put_row(some_row(number))
            except NoRoom:
                self.assertEqual(store.free, 0)
                self.assert_same(state_of(store), before)
                return True
            numbers.append(number)
        elif call == "cut":
            many = source.randint(0, len(numbers))
            table.cut(many)
            del numbers[many:]
        elif call == "fork" and len(tables) < 6:
            tables.append((table.fork(), list(numbers)))
        elif call == "take_over" and store.free and len(numbers) % store.size == 0:
            more = [number + place for place in range(store.size)]
            block = full_block(store, more)
            table.take_over(block)
            store.release(block)
            numbers.extend(more)
        return False

    def assert_all(self, store, tables):
        for table, numbers in tables:
            self.assertEqual(table.rows(), rows_from(*numbers))
            self.assertEqual(table.length, len(numbers))
            self.assertEqual(len(table.blocks), -(-len(numbers) // store.size))
        for block in range(store.many):
            self.assertEqual(store.holders(block), sum(block in table.blocks for table, _ in tables))
