"""[33]: forests of guesses."""

import copy
import random

from servedalone.asks import Ask
from servedalone.errors import InvalidLetter, NoRequest
from servedalone.forests import guess_best
from servedalone.houses import House
from servedalone.nets import Net
from servedalone.rules import Rule
from tests.helpers import COUNTING, EVEN, ROUND, Case, as_lists, chosen, seen, some_net, whole_state, wrong_numbers
from tests.pairs import CALLS, Deeds


class CountingNet(Net):
    """A net that keeps how many rows came before each row that it reckons, and the letter."""

    def __init__(self, *parts):
        super().__init__(*parts)
        self.rows = []

    def row(self, rows, letter):
        self.rows.append((len(rows), letter))
        return super().row(rows, letter)


def ready(ask, parts=ROUND, many=40, size=2, net=None):
    """A house whose request lacks only its last letter, behind one letter written."""
    house = House(net or Net(*parts), many, size)
    house.ask(ask)
    house.step(((0, len(ask.prompt)),))
    return house


def coming(slow, ticket):
    """The letters that would be chosen next, up to the one behind which the request has its word."""
    request = slow.requests[ticket]
    found = ()
    while len(found) < 8:
        text = request.text + found
        letter = chosen(slow.row_of(request.prompt + text)[1], text, request.tape, request.rule)
        if letter is None or letter == slow.parts[-1]:
            return found
        found += (letter,)
        text += (letter,)
        if len(text) == request.most or [stop for stop in request.stops if text[-len(stop):] == stop]:
            return found
    return found


def best_of(forest, letters):
    """The first row with the longest beginning that begins these letters, too; () if there is none."""
    def agreed(row):
        return max(many for many in range(len(row) + 1) if row[:many] == letters[:many] and many <= len(letters))

    best = ()
    for number, row in enumerate(forest):
        if number == 0 or agreed(row) > agreed(best):
            best = row
    return best


def some_forest(source, letters, right):
    """Rows of guesses that are right for a while; some are equal, some empty."""
    forest = []
    for _ in range(source.choice([0, 1, 2, 3, 6])):
        row = right[:source.randint(0, 6)]
        row += tuple(source.randrange(letters) for _ in range(source.choice([0, 0, 1, 6])))
        forest.append(source.choice(forest + [row[:6]] * 4))
    return tuple(forest)


class ByHand(Case):
    def test_the_row_that_agrees_for_longest(self):
        for forest, wanted in (
            (((1, 2), (2, 3, 0, 1), (2, 3, 1)), 5), (((2, 0, 0, 0), (2, 3)), 3), (((1, 1, 1),), 1), (((2,),), 2),
            ((), 1), (((),), 1), (((), (3, 2), (2, 3, 0, 1, 2, 0), (2, 3, 0, 1, 3)), 6), (((2, 3, 0, 1, 2, 3),), 7),
        ):
            house = ready(Ask((0,), 20))
            other = copy.deepcopy(house)
            found = self.assert_keeps(lambda rows: guess_best(other, 0, rows), as_lists(forest))
            self.assert_same(found, wanted)
            self.assert_same(guess_best(forest=forest, ticket=0, house=house), wanted)
            self.assert_same(house.text(0), (1, 2, 3, 0, 1, 2, 3, 0)[:1 + wanted])
            self.assert_same(house.length_of(0), 1 + wanted)

    def test_of_equal_ones_the_first(self):
        # Which one it is shows in how many rows are reckoned for it.
        for forest, made, reckoned in (
            (((2, 0), (2, 1, 1, 1), (2,)), 2, 3), (((2, 1, 1, 1), (2, 0), (2,)), 2, 5),
            (((2,), (2, 0), (2, 1, 1, 1)), 2, 2), (((3,), (2, 1), (2, 1), (1, 1)), 2, 3),
            (((0, 0, 0), ()), 1, 4), (((), (0, 0, 0)), 1, 1),
        ):
            house = ready(Ask((0,), 20))
            self.assert_same((guess_best(house, 0, forest), house.reckoned), (made, 1 + reckoned))

    def test_each_beginning_is_reckoned_once(self):
        net = CountingNet(*ROUND)
        house = ready(Ask((0,), 20), net=net)
        net.rows = []
        forest = ((2, 3, 1), (2, 3, 0), (2, 3), (1, 3), (), (2, 3, 0))
        self.assert_same(guess_best(house, 0, forest), 4)
        # The last letter; 2, 23, 231, 230, 1, 13; then what the house reckons for the row (2, 3, 0).
        before = [(1, 1), (2, 2), (3, 3), (4, 1), (4, 0), (2, 1), (3, 3)]
        self.assert_same(sorted(net.rows), sorted(before + [(1, 1), (2, 2), (3, 3), (4, 0)]))
        self.assert_same(house.reckoned, 1 + 4)

    def test_behind_its_word(self):
        # A letter that gives the request its word is the last one that a row can agree with.
        for ask, forest, found in (
            (Ask((0,), 3), ((2, 0), (2, 3, 1), (2, 3, 0, 0)), (2, 3, "most")),
            (Ask((0,), 9, stops=((3, 0),)), ((2, 3), (2, 3, 0, 3), (2, 3, 0, 1, 2)), (3, 4, "stop")),
            (Ask((0,), 9, stops=((2,),)), ((2, 3, 0), (2,), (2, 3)), (1, 3, "stop")),
            (Ask((0,), 9, rule=Rule(0, ((0, 0, 0, 1), (None,) * 4))), ((2, 3), (2, 3, 0, 0)), (3, 2, "stuck")),
        ):
            house = ready(ask)
            made, guessed, word = found
            self.assert_same(guess_best(house, 0, forest), made)
            self.assert_same((house.word(0), house.reckoned), (word, 1 + 1 + guessed))

    def test_the_end_is_no_letter(self):
        # The end 0 comes behind 3; that it is guessed is no agreement.
        house = ready(Ask((0,), 9), COUNTING)
        self.assert_same(guess_best(house, 0, ((2, 3), (2, 3, 0, 1))), 3)
        self.assert_same((house.word(0), house.text(0), house.reckoned), ("end", (1, 2, 3), 1 + 3))
        house = ready(Ask((2,), 9), COUNTING)
        self.assert_same((guess_best(house, 0, ((), (0, 0, 0))), house.word(0), house.reckoned), (1, "end", 2))

    def test_tapes_and_rules(self):
        tape, rule = (3, 7, 5, 9, 1), Rule(0, ((1, 0, None, 1), (1, None, 0, 0)))
        ask = Ask((0, 2), 9, tape=tape, rule=rule)
        house = ready(ask, EVEN[:5] + (None,))
        other = copy.deepcopy(house)
        other.step(((0, 3),))
        right = other.text(0)[1:]
        self.assert_same(guess_best(house, 0, ((), right[:1], right, right[:2])), 4)
        self.assert_same((house.text(0)[:4], house.reckoned), (other.text(0), 2 + 4))

    def test_nothing_is_done(self):
        forest = ((2, 3), (1,))
        put_off, out, gone = ready(Ask((0,), 9)), ready(Ask((0,), 9)), ready(Ask((0,), 9))
        put_off.put_off(0)
        out.deliver(0)
        out.swap_out(0)
        gone.cancel(0)
        back = House.come_back(out.net, 40, 2, out.log())
        ended = ready(Ask((0,), 1))
        fresh = House(Net(*ROUND), 40, 2)
        fresh.ask(Ask((0, 1), 9))
        self.assert_same((back.text(0), ended.word(0)), ((1,), "most"))
        for house in (put_off, out, gone, back, ended, fresh):
            before = whole_state(house)
            self.assert_same(guess_best(house, 0, forest), 0)
            self.assert_same(guess_best(house, 0, ()), 0)
            self.assertEqual(whole_state(house), before)

    def test_nothing_is_reckoned_either(self):
        net = CountingNet(*ROUND)
        house = ready(Ask((0,), 9), net=net)
        house.swap_out(0)
        net.rows = []
        self.assert_same((guess_best(house, 0, ((2, 3), (1,))), net.rows), (0, []))

    def test_one_letter_that_was_never_read(self):
        house = House(Net(*ROUND), 40, 2)
        house.ask(Ask((0,), 9))
        self.assert_same((guess_best(house, 0, ((2,), (1, 2))), house.text(0)), (3, (1, 2, 3)))

    def test_no_room_on_the_way(self):
        for many, made in ((1, 1), (2, 3), (3, 5), (4, 5)):
            house = ready(Ask((0,), 20), many=many)
            self.assert_same(guess_best(house, 0, ((3,), (2, 3, 0, 1), (2, 3))), made)
            self.assert_same((house.text(0), house.length_of(0)), ((1, 2, 3, 0, 1, 2)[:1 + made], 1 + made))
            self.assert_same(house.reckoned, 1 + 5)
        house = ready(Ask((0,), 20), many=1, size=1)
        self.assert_same((guess_best(house, 0, ((2,), ())), house.text(0), house.reckoned), (0, (1,), 3))

    def test_the_texts_go_on_as_alone(self):
        for seed in range(30):
            net = some_net(seed, letters=3, layers=1, end=None)
            house = House(net, 60, 2)
            source = random.Random(seed)
            house.ask(Ask((1,), 30, tape=(5, 900, 77)))
            house.step(((0, 1),))
            alone = copy.deepcopy(house)
            alone.step(((0, 60),))
            while house.word(0) is None:
                forest = [[source.randrange(3) for _ in range(source.randint(0, 6))] for _ in range(6)]
                many = len(house.text(0))
                self.assert_same(guess_best(house, 0, forest), len(house.text(0)) - many)
                self.assert_same(house.text(0), alone.text(0)[:len(house.text(0))])
            self.assert_same((house.text(0), house.word(0)), (alone.text(0), alone.word(0)))


class AgainstASlowHouse(Case):
    def test_drawn_forests(self):
        made, nothing, longest, words = {}, 0, 0, {}
        for seed in range(250):
            pair = Deeds(self, seed)
            source = pair.source
            for _ in range(12):
                pair.one_call(CALLS)
                ticket = pair.ticket()
                if source.random() < 0.7:
                    pair.do("swap_in", ticket)
                    pair.do("step", ((ticket, len(pair.slow.requests[ticket].prompt)),))
                right = coming(pair.slow, ticket)
                forest = some_forest(source, pair.letters, right)
                before = pair.slow.reckoned
                wanted = pair.slow.guess(ticket, best_of(forest, right))
                found = guess_best(pair.house, ticket, source.choice([forest, as_lists(forest)]))
                self.assert_same(found, wanted)
                pair.check()
                if pair.slow.reckoned > before:
                    made[wanted, len(forest)] = True
                    words[pair.slow.requests[ticket].word] = True
                    longest = max(longest, wanted)
                else:
                    nothing += 1
            pair.check_all()
        self.assertGreater(len(made), 30)
        self.assertEqual((nothing > 100, longest), (True, 7))
        self.assertEqual(set(words), {None, "end", "stop", "most", "stuck"})


class Wrong(Case):
    def test_no_ticket(self):
        for ticket in wrong_numbers(0, 0):
            house = ready(Ask((0,), 9))
            before = whole_state(house)
            self.assert_fails(NoRequest, {"ticket": ticket}, guess_best, house, ticket, ((9,), ("no letter",)))
            self.assertEqual(whole_state(house), before)

    def test_no_letters(self):
        house = ready(Ask((0,), 9))
        gone = ready(Ask((0,), 9))
        gone.cancel(0)
        for letter in wrong_numbers(0, 3):
            for forest in (
                ((letter,),), ((2, 3), (2, letter, -1), (9,)), [[], [1, 2], [letter]], ((2, 3, 0, 1, 2, letter),),
                ((3,), (3, letter)), ((2, letter), (letter,)),
            ):
                for one in (house, gone):
                    before = seen(one)
                    self.assert_fails(InvalidLetter, {"letter": letter}, guess_best, one, 0, forest)
                    self.assertEqual(seen(one), before)
        self.assertEqual(whole_state(house), whole_state(ready(Ask((0,), 9))))

    def test_the_first_wrong_letter_row_by_row(self):
        house = ready(Ask((0,), 9))
        self.assert_fails(InvalidLetter, {"letter": 5}, guess_best, house, 0, ((0, 0, 5), (4,)))
        self.assert_fails(InvalidLetter, {"letter": 4}, guess_best, house, 0, ((0, 0), (4, 6), (5,)))
