"""[32]: packets and receivers."""

from servedalone.asks import Ask
from servedalone.errors import InvalidNumber, NoRequest
from servedalone.rules import Rule
from servedalone.snapshots import restore, snapshot
from servedalone.wires import Receiver, packets
from tests.helpers import COUNTING, Case, alone, as_lists, spoil, whole_state, writing, wrong_numbers
from tests.pairs import CALLS, Pair


def cut_up(letters, size, last):
    """The packets, from the document's words."""
    if not letters:
        return ((0, (), last),)
    found, place = [], 0
    while place < len(letters):
        found.append((place, letters[place:place + size], last))
        place += size
    return tuple(found)


class Packets(Case):
    def test_sizes(self):
        house = writing(Ask((0,), 30), 11)
        letters = (1, 2, 3, 0, 1, 2, 3, 0, 1, 2, 3)
        for size in range(1, 9):
            self.assert_same(packets(house, 0, size), cut_up(letters, size, None))
        wanted = ((0, (1, 2, 3, 0), None), (4, (1, 2, 3, 0), None), (8, (1, 2, 3), None))
        self.assert_same(self.assert_keeps(packets, size=4, ticket=0, house=house), wanted)

    def test_just_so_many_letters(self):
        for size in range(1, 9):
            house = writing(Ask((0,), size), size)
            self.assert_same(packets(house, 0, size), ((0, house.text(0), size),))
            self.assert_same(len(packets(writing(Ask((0,), 2 * size), 60), 0, size)), 2)

    def test_no_letters(self):
        for size in (1, 8):
            self.assert_same(packets(writing(Ask((0,), 9), 0), 0, size), ((0, (), None),))
            self.assert_same(packets(writing(Ask((3,), 9), 1, COUNTING), 0, size), ((0, (), 0),))
            self.assert_same(packets(writing(Ask((0,), 9, stops=((1, 2, 3),)), 9), 0, size), ((0, (), 0),))
            # A stop may still come.
            self.assert_same(packets(writing(Ask((0,), 9, stops=((1, 2, 3),)), 2), 0, size), ((0, (), None),))

    def test_stops_that_may_still_come(self):
        ask = Ask((0,), 9, stops=((3, 3), (0, 1, 3)))
        for many, letters in ((2, (1, 2)), (3, (1, 2)), (4, (1, 2, 3)), (5, (1, 2, 3)), (6, (1, 2, 3, 0, 1, 2))):
            self.assert_same(packets(writing(ask, many), 0, 2), cut_up(letters, 2, None))

    def test_words(self):
        self.assert_same(packets(writing(Ask((0,), 3), 9), 0, 2), ((0, (1, 2), 3), (2, (3,), 3)))
        self.assert_same(packets(writing(Ask((0,), 9), 9, COUNTING), 0, 2), ((0, (1, 2), 3), (2, (3,), 3)))
        self.assert_same(packets(writing(Ask((0,), 9, stops=((3, 0),)), 9), 0, 1), ((0, (1,), 2), (1, (2,), 2)))
        stuck = Ask((0,), 9, rule=Rule(0, ((None, 0, 0, 1), (None,) * 4)))
        self.assert_same(packets(writing(stuck, 9), 0, 3), ((0, (1, 2, 3), 3),))

    def test_cancelled_and_out(self):
        house = writing(Ask((0,), 9, stops=((3, 3),)), 3)
        house.swap_out(0)
        self.assert_same(packets(house, 0, 8), ((0, (1, 2), None),))
        house.cancel(0)
        self.assert_same(packets(house, 0, 8), ((0, (1, 2), None),))
        house = writing(Ask((0,), 9), 0)
        house.cancel(0)
        self.assert_same(packets(house, 0, 8), ((0, (), None),))

    def test_what_was_delivered_is_there_too(self):
        house = writing(Ask((0,), 9), 4)
        house.deliver(0)
        before = whole_state(house)
        self.assert_same(packets(house, 0, 3), ((0, (1, 2, 3), None), (3, (0,), None)))
        self.assertEqual(whole_state(house), before)

    def test_against_a_slow_house(self):
        for seed in range(40):
            pair = Pair(self, seed)
            for _ in range(30):
                pair.one_call(CALLS + ["come_back"])
                ticket, size = pair.ticket(), pair.source.randint(1, 8)
                request = pair.slow.requests[ticket]
                last = None if request.word in (None, "cancelled") else len(request.text)
                found = packets(pair.house, ticket, size)
                self.assert_same(found, cut_up(pair.slow.sendable(ticket), size, last))
            pair.check_all()

    def test_wrong_tickets_and_sizes(self):
        house = writing(Ask((0,), 9), 4)
        before = whole_state(house)
        for ticket in wrong_numbers(0, 0):
            self.assert_fails(NoRequest, {"ticket": ticket}, packets, house, ticket, 1)
            self.assert_fails(NoRequest, {"ticket": ticket}, packets, house, ticket, 0)
        for size in wrong_numbers(1, 8):
            self.assert_fails(InvalidNumber, {"number": size}, packets, house, 0, size)
            self.assert_fails(InvalidNumber, {"number": size}, packets, writing(Ask((0,), 9), 0), 0, size)
        self.assertEqual(whole_state(house), before)


class SlowReceiver:
    """What is known of a text, as the packets that came."""

    def __init__(self):
        self.letters, self.length = {}, None

    def take(self, packet):
        place, letters, last = packet
        before = len(self.letters), self.length
        self.letters.update({place + number: letter for number, letter in enumerate(letters)})
        self.length = self.length if last is None else last
        return before != (len(self.letters), self.length)

    def text(self):
        places = [place for place in range(len(self.letters) + 1) if place not in self.letters]
        return tuple(self.letters[place] for place in range(places[0]))

    def is_whole(self):
        return self.length is not None and len(self.text()) == self.length


class Receivers(Case):
    def test_nothing(self):
        receiver = Receiver()
        self.assert_same((receiver.text(), receiver.is_whole()), ((), False))

    def test_in_order(self):
        receiver = Receiver()
        for packet, new, text, whole in (
            ((0, (1, 2), None), True, (1, 2), False), ((2, (3,), None), True, (1, 2, 3), False),
            ((2, (3, 0), None), True, (1, 2, 3, 0), False), ((0, (1, 2), 4), True, (1, 2, 3, 0), True),
            ((2, (3, 0), 4), False, (1, 2, 3, 0), True), ((0, (), None), False, (1, 2, 3, 0), True),
        ):
            self.assert_same(receiver.take(packet), new)
            self.assert_same((receiver.text(), receiver.is_whole()), (text, whole))

    def test_out_of_order(self):
        receiver = Receiver()
        for packet, new, text, whole in (
            ([4, [1], 5], True, (), False), ((4, (1,), 5), False, (), False), ((4, (1,), None), False, (), False),
            ((2, [3, 0], None), True, (), False), ((1, (2, 3), None), True, (), False),
            ((1, (2, 3, 0, 1), 5), False, (), False), ((0, (1,), None), True, (1, 2, 3, 0, 1), True),
        ):
            self.assert_same(self.assert_keeps(receiver.take, packet=packet), new)
            self.assert_same((receiver.text(), receiver.is_whole()), (text, whole))

    def test_no_letters(self):
        receiver = Receiver()
        self.assert_same((receiver.take((0, (), None)), receiver.is_whole()), (False, False))
        self.assert_same((receiver.take((0, (), 0)), receiver.is_whole(), receiver.text()), (True, True, ()))
        self.assert_same((receiver.take((0, (), 0)), receiver.is_whole()), (False, True))

    def test_the_letter_0_is_known(self):
        receiver = Receiver()
        self.assert_same((receiver.take((0, (0, 0), None)), receiver.take((0, (0, 0), None))), (True, False))
        self.assert_same((receiver.text(), receiver.take((0, (0, 0), 2)), receiver.is_whole()), ((0, 0), True, True))

    def test_later_changes(self):
        receiver, packet = Receiver(), [0, [1, 2], None]
        receiver.take(packet)
        spoil(packet)
        self.assert_same(receiver.text(), (1, 2))

    def test_two_receivers(self):
        one, other = Receiver(), Receiver()
        one.take((0, (1,), 1))
        self.assert_same((other.text(), other.is_whole()), ((), False))
        self.assert_same((other.take((0, (3,), 1)), one.text(), other.text()), (True, (1,), (3,)))


class Sent(Case):
    """Packets of several moments, some twice, some never, in any order."""

    def receive(self, source, sent, whole):
        """Takes some of the packets; the text is always a beginning of the whole one, or this text."""
        receiver, slow = Receiver(), SlowReceiver()
        text, word = whole
        for packet in source.choices(sent, k=source.randint(1, 3 * len(sent))):
            packet = source.choice([packet, as_lists(packet)])
            self.assert_same(receiver.take(packet), slow.take(packet))
            found = receiver.text()
            self.assert_same((found, receiver.is_whole()), (slow.text(), slow.is_whole()))
            self.assert_same(found, text[:len(found)])
            if receiver.is_whole():
                self.assert_same(found, text)
        return receiver.is_whole()

    def test_also_over_houses_that_come_back(self):
        wholes = 0
        for seed in range(120):
            pair = Pair(self, seed)
            source, sent = pair.source, {}
            for _ in range(40):
                pair.one_call(CALLS + ["come_back"])
                if source.random() < 0.1:
                    pair.house = restore(pair.net, snapshot(pair.house))
                for ticket in range(len(pair.slow.requests)):
                    if source.random() < 0.4:
                        sent.setdefault(ticket, []).extend(packets(pair.house, ticket, source.randint(1, 8)))
            pair.check()
            for ticket, found in sent.items():
                request = pair.slow.requests[ticket]
                ask = Ask(request.prompt, request.most, stops=request.stops, tape=request.tape, rule=request.rule)
                for _ in range(3):
                    wholes += self.receive(source, found, alone(pair.parts, ask, request.first))
        self.assertGreater(wholes, 100)

    def test_all_packets_of_a_text_that_is_whole(self):
        for seed in range(60):
            pair = Pair(self, seed, shape=(60, 2))
            pair.limit = 4
            source, sent = pair.source, {}
            for _ in range(20):
                pair.one_call(["ask", "step"])
            while pair.slow.going():
                pair.do("step", [(ticket, source.randint(1, 5)) for ticket in pair.slow.going()])
                for ticket in range(len(pair.slow.requests)):
                    sent.setdefault(ticket, []).extend(packets(pair.house, ticket, source.randint(1, 8)))
            for ticket, found in sent.items():
                receiver = Receiver()
                for packet in source.sample(found, len(found)):
                    receiver.take(packet)
                self.assert_same((receiver.is_whole(), receiver.text()), (True, pair.house.text(ticket)))
