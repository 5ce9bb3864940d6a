"""[23]: beams."""

import random
from fractions import Fraction

from servedalone.asks import Ask
from servedalone.audits import faults, holders
from servedalone.beams import beams_in, plain_beams
from servedalone.deeds import picture
from servedalone.errors import InvalidLetter, NoRoom
from servedalone.houses import House
from servedalone.nets import Net
from servedalone.shares import Share
from tests.helpers import COUNTING, EVEN, Case, as_lists, parts_of_net, reckoned_rows, whole_state, wrong_numbers
from tests.pairs import CALLS, Deeds, Pair

# Behind any letters all four have the same share; 2 is the end.
LEVEL = (5, ((1,),) * 4, (0,), (), ((0,),) * 4, 2)


def all_grown(parts, prompt, wide, most):
    """The beams, from the document's words."""
    rows = [((), Fraction(1))]
    for _ in range(most):
        grown = []
        for row, share in rows:
            if row and row[-1] == parts[-1]:
                grown.append((row, share))
                continue
            weights = reckoned_rows(parts, tuple(prompt) + row)[-1][1]
            for letter, weight in enumerate(weights):
                grown.append((row + (letter,), share * Fraction(weight, sum(weights))))
        rows = sorted(grown, key=lambda pair: (-pair[1], pair[0]))[:wide]
    return rows


def some_beams(seed):
    """A net's parts, a prompt, how wide and how far."""
    source = random.Random(seed)
    letters = source.choice([1, 2, 2, 3, 5])
    prime, end = source.choice([2, 2, 3, 5, 97]), source.choice([None, source.randrange(letters), 0])
    width, layers = source.randint(1, 2), source.randint(0, 2)
    parts = parts_of_net(source, prime=prime, letters=letters, width=width, layers=layers, end=end)
    prompt = tuple(source.randrange(letters) for _ in range(source.randint(1, 5)))
    return parts, prompt, source.randint(1, 4), source.randint(1, 8)


class BeamCase(Case):
    def assert_beams(self, found, wanted):
        self.assertIs(type(found), tuple)
        self.assertEqual({(type(pair), type(pair[0]), type(pair[1])) for pair in found}, {(tuple, tuple, Share)})
        pairs = [(row, Fraction(share.over, share.under)) for row, share in found]
        self.assertEqual(pairs, list(wanted))


class PlainBeams(BeamCase):
    def test_by_hand(self):
        found = plain_beams(Net(*COUNTING[:5], None), (0,), 2, 2)
        self.assert_beams(found, [((1, 2), Fraction(4, 25)), ((0, 1), Fraction(2, 25))])
        self.assert_beams(plain_beams(most=1, wide=1, prompt=[3], net=Net(*EVEN)), [((3,), Fraction(4, 10))])

    def test_equal_shares(self):
        found = plain_beams(Net(*LEVEL), (1,), 4, 1)
        self.assert_beams(found, [((letter,), Fraction(1, 4)) for letter in range(4)])
        found = plain_beams(Net(*LEVEL), (1,), 4, 2)
        self.assert_beams(found, [((2,), Fraction(1, 4))] + [((0, letter), Fraction(1, 16)) for letter in range(3)])
        found = plain_beams(Net(*LEVEL), (1,), 4, 3)
        wanted = [((2,), 4), ((0, 2), 16), ((0, 0, 0), 64), ((0, 0, 1), 64)]
        self.assert_beams(found, [(row, Fraction(1, under)) for row, under in wanted])

    def test_a_row_that_ended_stays(self):
        # The end is the likeliest behind 3.
        found = plain_beams(Net(*COUNTING), (3,), 1, 8)
        self.assert_beams(found, [((0,), Fraction(2, 5))])

    def test_an_end_in_the_prompt_is_none(self):
        self.assert_beams(plain_beams(Net(*COUNTING), (0, 0), 1, 2), [((1, 2), Fraction(4, 25))])

    def test_fewer_rows_than_wide(self):
        parts = parts_of_net(random.Random(1), letters=1, end=0)
        self.assert_beams(plain_beams(Net(*parts), (0,), 4, 8), [((0,), Fraction(1))])
        self.assert_beams(plain_beams(Net(*parts[:5], None), (0,), 4, 3), [((0, 0, 0), Fraction(1))])
        parts = parts_of_net(random.Random(1), letters=2, end=None)
        self.assertEqual(len(plain_beams(Net(*parts), (0,), 4, 1)), 2)

    def test_against_all_rows_grown(self):
        for seed in range(150):
            parts, prompt, wide, most = some_beams(seed)
            found = self.assert_keeps(plain_beams, Net(*parts), as_lists(prompt), wide, most)
            self.assert_beams(found, all_grown(parts, prompt, wide, most))


class BeamsIn(BeamCase):
    def assert_same_house(self, house, before):
        self.assertEqual(whole_state(house), before)
        self.assertEqual(faults(house), ())

    def test_against_all_rows_grown(self):
        for seed in range(100):
            parts, prompt, wide, most = some_beams(seed)
            house = House(Net(*parts), 60, random.Random(seed).randint(3, 8))
            before = whole_state(house)
            found = self.assert_keeps(beams_in, house, as_lists(prompt), wide, most)
            self.assert_beams(found, all_grown(parts, prompt, wide, most))
            self.assertTrue(found == plain_beams(house.net, prompt, wide, most))
            self.assert_same_house(house, before)

    def test_just_enough_blocks_and_one_fewer(self):
        for seed in range(100):
            parts, prompt, wide, most = some_beams(seed)
            size = random.Random(seed).randint(1, 8)
            many = 2 * wide * len(range(0, len(prompt) + most, size))
            net = Net(*parts)
            if many <= 60:
                found = beams_in(House(net, many, size), prompt, wide, most)
                self.assert_beams(found, all_grown(parts, prompt, wide, most))
            house = House(net, min(60, many - 1), size)
            before = whole_state(house)
            self.assert_fails(NoRoom, {"many": many}, beams_in, house, prompt, wide, most)
            self.assertEqual(whole_state(house), before)

    def test_beside_going_requests(self):
        done = 0
        for seed in range(80):
            pair = Pair(self, seed, shape=(10 + seed % 50, 1 + seed % 8))
            for _ in range(30):
                pair.one_call(CALLS)
            source, house = pair.source, pair.house
            prompt = tuple(source.randrange(pair.letters) for _ in range(source.randint(1, 4)))
            wide, most = source.randint(1, 4), source.randint(1, 8)
            many = 2 * wide * len(range(0, len(prompt) + most, house.store.size))
            before = whole_state(house)
            if house.store.free < many:
                self.assert_fails(NoRoom, {"many": many}, beams_in, house, prompt, wide, most)
            else:
                found = beams_in(most=most, wide=wide, prompt=prompt, house=house)
                self.assert_beams(found, all_grown(pair.parts, prompt, wide, most))
                done += 1
            self.assert_same_house(house, before)
            for _ in range(10):
                pair.one_call(CALLS)
                pair.check()
            pair.check_all()
        self.assertGreater(done, 20)

    def test_just_enough_beside_requests(self):
        for free in (11, 12, 13):
            house = House(Net(*COUNTING), 3 + free, 2)
            house.ask(Ask((1, 1, 2, 2, 1), 9))
            house.step(((0, 5),))
            self.assert_same(house.store.free, free)
            before = whole_state(house)
            # Rows for 5 letters are in 3 blocks; two times two such tables are 12.
            if free < 12:
                self.assert_fails(NoRoom, {"many": 12}, beams_in, house, (0, 1), 2, 3)
            else:
                self.assert_beams(beams_in(house, (0, 1), 2, 3), all_grown(COUNTING, (0, 1), 2, 3))
            self.assert_same_house(house, before)

    def test_what_is_only_in_the_tree_is_not_dropped(self):
        house = House(Net(*COUNTING), 8, 1)
        house.ask(Ask((1,), 1))
        house.step(((0, 1),))
        before = whole_state(house)
        self.assert_same((house.store.free, holders(house)[0]), (7, 1))
        self.assert_fails(NoRoom, {"many": 8}, beams_in, house, (1,), 2, 1)
        self.assert_same_house(house, before)

    def test_what_the_tree_has_is_neither_taken_nor_used(self):
        house = House(Net(*COUNTING), 30, 1)
        for letter in (1, 2):
            house.ask(Ask((letter,), 1))
            house.step(((letter - 1, 1),))
        before = whole_state(house)
        beams_in(house, (1, 2, 3), 1, 2)
        self.assert_same_house(house, before)

    def test_wrong_letters(self):
        house = House(Net(*COUNTING), 1, 1)
        before = whole_state(house)
        for letter in wrong_numbers(0, 3):
            # There would be no room, too.
            for prompt in ((letter,), (1, letter, 9), [2, letter]):
                self.assert_fails(InvalidLetter, {"letter": letter}, beams_in, house, prompt, 1, 8)
        self.assert_fails(NoRoom, {"many": 18}, beams_in, house, (1,), 1, 8)
        self.assertEqual(whole_state(house), before)


class AroundAPicture(BeamCase):
    """A house to which deeds were done is the same behind beams as before, whatever they give."""

    def around(self, house, wanted, call, *arguments):
        """The call does as wanted, and the house stays as it was."""
        before = picture(house), house.log(), house.reckoned, holders(house), house.tree.by_last_use()
        wanted(call, *arguments)
        self.assert_same(picture(house), before[0])
        found = picture(house), house.log(), house.reckoned, holders(house), house.tree.by_last_use()
        self.assertEqual(found, before)
        self.assertEqual(faults(house), ())

    def test_in_a_house_to_which_deeds_were_done(self):
        done = {}
        for seed in range(100):
            pair = Deeds(self, seed, shape=(20 + seed % 41, 1 + seed % 8))
            for _ in range(25):
                pair.one_deed()
            source, house = pair.source, pair.house
            prompt = tuple(source.randrange(pair.letters) for _ in range(source.randint(1, 4)))
            wide, most = source.randint(1, 4), source.randint(1, 6)
            wanted = all_grown(pair.parts, prompt, wide, most)

            def is_right(call, *arguments):
                self.assert_beams(call(*arguments), wanted)

            self.around(house, is_right, plain_beams, house.net, prompt, wide, most)
            many = 2 * wide * len(range(0, len(prompt) + most, house.store.size))
            if house.store.free >= many:
                self.around(house, is_right, beams_in, house, prompt, wide, most)
                done[seed] = True
            else:
                def has_no_room(call, *arguments):
                    self.assert_fails(NoRoom, {"many": many}, call, *arguments)

                self.around(house, has_no_room, beams_in, house, prompt, wide, most)
            letter = source.choice(wrong_numbers(0, pair.letters - 1))

            def is_refused(call, *arguments):
                self.assert_fails(InvalidLetter, {"letter": letter}, call, *arguments)

            self.around(house, is_refused, beams_in, house, prompt + (letter,), wide, most)
            # The slow house had no beams, and goes on just so.
            for _ in range(10):
                pair.one_deed()
                pair.check()
            pair.check_all()
        self.assertTrue(20 < len(done) < 90, len(done))
