"""[12]: trees."""

import random

from servedalone.stores import Store
from servedalone.trees import Tree
from tests.helpers import Case, full_block, spoil, state_of


class TreeCase(Case):
    def put_new(self, store, tree, path):
        """Puts a block of its own under the path, so that the tree alone holds it; returns the block."""
        block = full_block(store, path[-store.size:])
        self.assert_same(tree.put(path, block), block)
        store.release(block)
        return block

    def dropped(self, tree):
        """The paths that go out of the tree, one drop after the other, until none goes."""
        gone = []
        before = list(tree)
        while tree.drop():
            gone.extend(path for path in before if path not in list(tree))
            before = list(tree)
        return gone


class Put(TreeCase):
    def test_an_empty_tree(self):
        tree = Tree(store=Store(3, 2))
        self.assert_same((len(tree), list(tree), tree.known((1, 2, 3))), (0, [], ()))

    def test_under_nothing(self):
        store = Store(3, 2)
        tree = Tree(store)
        block = full_block(store, (1, 2))
        self.assert_same(self.assert_keeps(tree.put, [1, 2], block), block)
        self.assert_same((list(tree), store.holders(block), store.free), ([(1, 2)], 2, 2))
        store.release(block)
        self.assert_same((tree.known((1, 2)), store.holders(block), store.free), ((0,), 1, 2))

    def test_under_a_path_that_is_there(self):
        store = Store(3, 2)
        tree = Tree(store)
        self.put_new(store, tree, (1, 2))
        self.put_new(store, tree, (1, 2, 1, 2))
        self.assert_same(list(tree), [(1, 2), (1, 2, 1, 2)])
        self.assert_same(tree.known((1, 2, 1, 2)), (0, 1))
        self.assert_same((store.holders(0), store.holders(1)), (1, 1))

    def test_under_one_that_is_not(self):
        store = Store(3, 2)
        tree = Tree(store)
        self.put_new(store, tree, (1, 2))
        block = full_block(store, (3, 4))
        before = state_of(store)
        for path in ((3, 4, 3, 4), (1, 2, 3, 4, 3, 4), [1, 3, 3, 4]):
            self.assert_same(tree.put(path, block), block)
            self.assert_same((list(tree), state_of(store)), ([(1, 2)], before))

    def test_again_with_another_block(self):
        store = Store(4, 1)
        tree = Tree(store)
        block = self.put_new(store, tree, (5,))
        other = full_block(store, (5,))
        before = state_of(store)
        self.assert_same(tree.put((5,), other), block)
        self.assert_same(tree.put(block=other, path=[5]), block)
        self.assert_same((state_of(store), list(tree), tree.known((5,))), (before, [(5,)], (block,)))

    def test_again_with_the_same_block(self):
        store = Store(4, 1)
        tree = Tree(store)
        block = self.put_new(store, tree, (5,))
        self.assert_same(tree.put((5,), block), block)
        self.assert_same((store.holders(block), len(tree)), (1, 1))

    def test_later_changes_have_no_effect(self):
        store = Store(4, 2)
        tree = Tree(store)
        path = [1, 2]
        tree.put(path, full_block(store, (1, 2)))
        spoil(path)
        self.assert_same((list(tree), tree.known((1, 2))), ([(1, 2)], (0,)))

    def test_two_trees_in_two_stores(self):
        stores = Store(2, 1), Store(2, 1)
        trees = Tree(stores[0]), Tree(stores[1])
        self.put_new(stores[0], trees[0], (1,))
        self.assert_same((len(trees[0]), len(trees[1]), stores[1].free), (1, 0, 2))


class Known(TreeCase):
    def setUp(self):
        self.store = Store(9, 2)
        self.tree = Tree(self.store)
        self.store.take()
        for path in ((1, 2), (1, 2, 3, 4), (1, 2, 3, 4, 5, 6), (1, 3)):
            self.put_new(self.store, self.tree, path)

    def test_letters_shorter_than_a_block(self):
        self.assert_same([self.tree.known(letters) for letters in ((), (1,), [])], [(), (), ()])

    def test_a_whole_path(self):
        self.assert_same(self.tree.known((1, 2)), (1,))
        self.assert_same(self.tree.known((1, 2, 3, 4)), (1, 2))
        self.assert_same(self.tree.known((1, 2, 3, 4, 5, 6)), (1, 2, 3))
        self.assert_same(self.tree.known((1, 3)), (4,))

    def test_a_path_and_more_letters(self):
        self.assert_same(self.tree.known((1, 2, 3)), (1,))
        self.assert_same(self.tree.known((1, 2, 4, 3)), (1,))
        self.assert_same(self.tree.known((1, 2, 3, 4, 6, 5, 5, 6)), (1, 2))
        self.assert_same(self.tree.known((1, 2, 3, 4, 5, 6, 7, 8, 9)), (1, 2, 3))
        self.assert_same(self.assert_keeps(self.tree.known, letters=[1, 3, 3, 4]), (4,))

    def test_other_letters(self):
        self.assert_same([self.tree.known(letters) for letters in ((2, 1), (3, 4), (0, 1, 2))], [(), (), ()])

    def test_the_store_does_not_change(self):
        before = state_of(self.store)
        self.tree.known((1, 2, 3, 4, 5, 6))
        self.assert_same(state_of(self.store), before)
        self.assert_same(len(self.tree), 4)


class Iteration(TreeCase):
    def test_ascending(self):
        store = Store(9, 1)
        tree = Tree(store)
        for path in ((3,), (1,), (3, 2), (3, 0), (1, 9), (3, 0, 0), (11,)):
            self.put_new(store, tree, path)
        wanted = [(1,), (1, 9), (3,), (3, 0), (3, 0, 0), (3, 2), (11,)]
        self.assert_same((list(tree), len(tree)), (wanted, 7))
        self.assert_same([path for path in tree], wanted)
        tree.drop()
        self.assert_same((list(tree), len(tree)), ([path for path in wanted if path != (3, 2)], 6))

    def test_drops_while_it_goes_on(self):
        store = Store(9, 1)
        tree = Tree(store)
        for path in ((1,), (2,), (3,)):
            self.put_new(store, tree, path)
        seen = []
        for path in tree:
            tree.drop()
            seen.append(path)
        self.assert_same((seen, len(tree)), ([(1,), (2,), (3,)], 0))


class Drop(TreeCase):
    def test_an_empty_tree(self):
        store = Store(2, 2)
        store.take()
        before = state_of(store)
        self.assertIs(Tree(store).drop(), False)
        self.assert_same(state_of(store), before)

    def test_until_it_is_empty(self):
        store = Store(4, 1)
        tree = Tree(store)
        self.put_new(store, tree, (1,))
        self.put_new(store, tree, (2,))
        self.assertIs(tree.drop(), True)
        self.assert_same((list(tree), store.free, store.holders(0)), ([(2,)], 3, 0))
        self.assertIs(tree.drop(), True)
        self.assertIs(tree.drop(), False)
        self.assert_same((list(tree), len(tree), store.free, tree.known((2,))), ([], 0, 4, ()))

    def test_beginnings_of_others_stay(self):
        store = Store(5, 1)
        tree = Tree(store)
        for path in ((1,), (1, 2), (1, 2, 3), (4,)):
            self.put_new(store, tree, path)
        # (1, 2) was used by the call of put for (1, 2, 3), and (1, 2, 3) before (4,).
        self.assert_same(self.dropped(tree), [(1, 2, 3), (1, 2), (1,), (4,)])

    def test_blocks_that_others_hold_stay(self):
        store = Store(5, 1)
        tree = Tree(store)
        for path in ((1,), (2,), (2, 3)):
            self.put_new(store, tree, path)
        store.hold(0)
        self.assert_same(self.dropped(tree), [(2, 3), (2,)])
        self.assert_same((list(tree), store.holders(0), store.free), ([(1,)], 2, 4))
        self.assertIs(tree.drop(), False)
        store.release(0)
        self.assert_same(self.dropped(tree), [(1,)])

    def test_a_held_end_keeps_its_beginnings(self):
        store = Store(5, 1)
        tree = Tree(store)
        for path in ((1,), (1, 2), (1, 2, 3)):
            self.put_new(store, tree, path)
        store.hold(2)
        self.assertIs(tree.drop(), False)
        self.assert_same((len(tree), store.free), (3, 2))

    def test_put_again_behind_a_drop(self):
        store = Store(2, 1)
        tree = Tree(store)
        self.put_new(store, tree, (1,))
        tree.drop()
        self.assert_same(self.put_new(store, tree, (1,)), 0)
        self.assert_same((list(tree), tree.known((1,))), ([(1,)], (0,)))

    def test_no_place_behind_a_drop(self):
        store = Store(3, 1)
        tree = Tree(store)
        self.put_new(store, tree, (1,))
        tree.drop()
        block = full_block(store, (2,))
        self.assert_same(tree.put((1, 2), block), block)
        self.assert_same((len(tree), store.holders(block)), (0, 1))


class Uses(TreeCase):
    def made(self, *paths):
        store = Store(20, 1)
        tree = Tree(store)
        for path in paths:
            self.put_new(store, tree, path)
        return store, tree

    def test_the_order_of_the_puts(self):
        _, tree = self.made((3,), (1,), (2,))
        self.assert_same(self.dropped(tree), [(3,), (1,), (2,)])

    def test_known_uses_the_paths_that_it_finds(self):
        _, tree = self.made((3,), (1,), (2,))
        tree.known((3, 5, 5))
        tree.known((1,))
        self.assert_same(self.dropped(tree), [(2,), (3,), (1,)])

    def test_known_uses_the_shorter_ones_too(self):
        _, tree = self.made((1,), (1, 1), (2,))
        tree.known((1, 1))
        # (1, 1) and (1,) are used behind (2,).
        self.assert_same(self.dropped(tree), [(2,), (1, 1), (1,)])

    def test_known_does_not_use_longer_ones(self):
        _, tree = self.made((1,), (1, 1), (2,))
        tree.known((1, 2))
        self.assert_same(self.dropped(tree), [(1, 1), (2,), (1,)])

    def test_known_that_finds_nothing_uses_nothing(self):
        _, tree = self.made((1,), (2,))
        tree.known((3, 1))
        tree.known(())
        self.assert_same(self.dropped(tree), [(1,), (2,)])

    def test_put_uses_a_path_that_is_there(self):
        store, tree = self.made((1,), (2,))
        tree.put((1,), full_block(store, (1,)))
        self.assert_same(self.dropped(tree), [(2,), (1,)])

    def test_put_uses_the_beginnings_of_a_new_path(self):
        store, tree = self.made((1,), (2,))
        self.put_new(store, tree, (1, 5))
        self.assert_same(self.dropped(tree), [(2,), (1, 5), (1,)])

    def test_put_uses_the_beginnings_of_a_path_that_has_no_place(self):
        store, tree = self.made((1,), (1, 1), (2,), (3,))
        tree.put((1, 1, 4, 4), full_block(store, (4,)))
        self.assert_same(self.dropped(tree), [(2,), (3,), (1, 1), (1,)])

    def test_put_of_a_path_without_beginnings_uses_nothing(self):
        store, tree = self.made((1,), (2,))
        tree.put((4, 1), full_block(store, (1,)))
        self.assert_same(self.dropped(tree), [(1,), (2,)])

    def test_len_iteration_and_drop_use_nothing(self):
        store, tree = self.made((1,), (2,), (3,))
        len(tree), list(tree)
        store.hold(0)
        tree.drop()
        store.release(0)
        self.assert_same(self.dropped(tree), [(1,), (3,)])


class ManyCalls(TreeCase):
    def test_against_a_plain_list_in_the_order_of_uses(self):
        for seed in range(40):
            source = random.Random(seed)
            store = Store(60, source.randint(1, 3))
            tree = Tree(store)
            listed = []
            for _ in range(200):
                self.one_call(source, store, tree, listed)
                paths = sorted(path for path, _ in listed)
                self.assert_same((list(tree), len(tree)), (paths, len(paths)))
                self.assert_same(60 - store.free, len(paths))

    def one_call(self, source, store, tree, listed):
        """One call, and the same on the list of pairs (path, block), the one used last at its end."""
        letters = tuple(source.randrange(2) for _ in range(source.randint(1, 4) * store.size))
        call = source.choice(["put", "put", "known", "drop"])
        if call == "put":
            self.one_put(store, tree, listed, letters)
            use(listed, letters)
        elif call == "known":
            letters += (0,) * source.randrange(store.size)
            use(listed, letters)
            begun = sorted((len(path), block) for path, block in listed if letters[:len(path)] == path)
            self.assert_same(tree.known(letters), tuple(block for _, block in begun))
        else:
            ready = [pair for pair in listed if not any(is_longer(path, pair[0]) for path, _ in listed)]
            held = [block for _, block in ready[:source.choice([0, 0, 1, 2])]]
            for block in held:
                store.hold(block)
            ready = [pair for pair in ready if pair[1] not in held]
            self.assert_same(tree.drop(), bool(ready))
            for pair in ready[:1]:
                listed.remove(pair)
            for block in held:
                store.release(block)

    def one_put(self, store, tree, listed, path):
        block = full_block(store, range(store.size))
        before = dict(listed)
        has_place = len(path) == store.size or path[:-store.size] in before
        if has_place and path not in before:
            listed.append((path, block))
        self.assert_same(tree.put(path, block), before.get(path, block))
        store.release(block)


def is_longer(path, beginning):
    return len(path) > len(beginning) and path[:len(beginning)] == beginning


def use(listed, letters):
    """Moves the paths that begin these letters to the end of the list, the longest first."""
    used = [pair for pair in listed if letters[:len(pair[0])] == pair[0]]
    for pair in sorted(used, key=lambda pair: -len(pair[0])):
        listed.remove(pair)
        listed.append(pair)
