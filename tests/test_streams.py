"""[17], the first sentence: held_back."""

import random

from servedalone.streams import held_back
from tests.helpers import Case, as_lists


class HeldBack(Case):
    def test_no_stops(self):
        self.assert_same([held_back((), text) for text in ((), (1,), (1, 2, 3))], [0, 0, 0])

    def test_no_text(self):
        self.assert_same(held_back(((1, 2), (3,)), ()), 0)

    def test_a_stop_of_one_letter_holds_nothing_back(self):
        self.assert_same([held_back(((1,),), text) for text in ((1,), (2, 1), (1, 1))], [0, 0, 0])

    def test_each_beginning(self):
        stops = ((1, 2, 3, 4),)
        texts = ((1,), (1, 2), (1, 2, 3), (1, 2, 3, 4), (2,), (2, 3), (0, 1), (0, 1, 2), (1, 2, 1), (1, 0))
        self.assert_same([held_back(stops, text) for text in texts], [1, 2, 3, 0, 0, 0, 1, 2, 1, 0])

    def test_stops_longer_than_the_text(self):
        self.assert_same(held_back(((1, 2, 3, 4), (5, 6)), (1, 2)), 2)
        self.assert_same(held_back(((1, 2, 3, 4),), (2, 3)), 0)

    def test_the_longest_of_several_stops(self):
        stops = ((3, 9), (2, 3, 9), (1, 2, 3, 9))
        self.assert_same(held_back(stops, (1, 2, 3)), 3)
        self.assert_same(held_back(stops[::-1], (1, 2, 3)), 3)
        self.assert_same(held_back(stops, (0, 2, 3)), 2)
        self.assert_same(held_back(stops, (2, 2, 0, 3)), 1)

    def test_a_stop_that_begins_as_it_ends(self):
        self.assert_same(held_back(((1, 2, 1),), (1, 2, 1)), 1)
        self.assert_same(held_back(((1, 1, 1),), (1, 1, 1, 1)), 2)
        self.assert_same(held_back(((1, 2, 1, 2),), (0, 1, 2, 1, 2)), 2)
        self.assert_same(held_back(((1, 2, 1, 3),), (1, 2, 1)), 3)

    def test_a_whole_stop_may_begin_another(self):
        self.assert_same(held_back(((1, 2), (1, 2, 3)), (1, 2)), 2)
        self.assert_same(held_back(((1, 2), (2, 3)), (1, 2)), 1)

    def test_lists_and_names(self):
        self.assert_same(self.assert_keeps(held_back, [[1, 2], (3, 4, 5)], [9, 3, 4]), 2)
        self.assert_same(held_back(text=(1,), stops=[[1, 2]]), 1)

    def test_against_all_endings(self):
        for seed in range(500):
            source = random.Random(seed)
            stops = tuple(
                tuple(source.randrange(2) for _ in range(source.randint(1, 4))) for _ in range(source.randint(0, 4)))
            text = tuple(source.randrange(2) for _ in range(source.randint(0, 8)))
            fits = [
                many for many in range(len(text) + 1) for stop in stops
                if many < len(stop) and text[len(text) - many:] == stop[:many]
            ]
            wanted = max(fits, default=0)
            self.assert_same(held_back(stops, text), wanted)
            self.assert_same(held_back(as_lists(stops), as_lists(text)), wanted)
