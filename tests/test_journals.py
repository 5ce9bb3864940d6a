"""[31]: journals."""

from servedalone.asks import Ask
from servedalone.deeds import picture, redo
from servedalone.journals import read_deeds, write_deeds
from servedalone.nets import Net
from tests.helpers import GREAT, ROUND, Case, as_lists, as_tuples, kinds, whole_state
from tests.pairs import Deeds

EXAMPLE = [("step", ((0, 2), (1, 1))), ("deliver", 0)]
EXAMPLE_TEXT = "(step,((0,2),(1,1)))\n(deliver,0)\n"
# Every kind of deed, with what may stand in it.
EVERY = [
    (("ask", Ask((1,), 5)), "(ask,((1),5,(),()))"),
    (("ask", Ask([0, 2], 30, stops=[[1, 2], (3,)], tape=[999999, 0])), "(ask,((0,2),30,((1,2),(3)),(999999,0)))"),
    (["ask", Ask((3, -7, GREAT, ((1, -2), [], [3])), 1, stops=((4,),))],
     "(ask,((3,-7,%d,((1,-2),(),(3))),1,((4)),()))" % GREAT),
    (("step", ()), "(step,())"), (["step", []], "(step,())"), (("step", [[0, 60], (12, 0)]), "(step,((0,60),(12,0)))"),
    (("step", ((-1, GREAT), (-GREAT, 7))), "(step,((-1,%d),(-%d,7)))" % (GREAT, GREAT)),
    (("put_off", 3), "(put_off,3)"), (("swap_out", 10), "(swap_out,10)"), (["swap_in", -1], "(swap_in,-1)"),
    (("swap_in", ()), "(swap_in,())"), (("cancel", [[]]), "(cancel,(()))"), (("cancel", (4, [5, (6,)])), "(cancel,(4,(5,(6))))"),
    (("fork", 0, ()), "(fork,0,())"), (("fork", 29, [1, 23, 456]), "(fork,29,(1,23,456))"),
    (("guess", 2, []), "(guess,2,())"), (("guess", 2, (0, 11, -3)), "(guess,2,(0,11,-3))"),
    (("deliver", 0), "(deliver,0)"), (("deliver", -GREAT), "(deliver,-%d)" % GREAT),
]


def as_values(deeds):
    """The deeds with tuples throughout, an ask as the tuple of what it has."""
    found = []
    for deed in deeds:
        if isinstance(deed[1], Ask):
            ask = deed[1]
            found.append(("Ask", as_tuples((deed[0], ask.prompt, ask.most, ask.stops, ask.tape)), ask.rule))
        else:
            found.append(as_tuples(deed))
    return found


def drawn(case, seed, calls):
    """A pair of houses to which deeds were done, whose asks are without rules."""
    pair = Deeds(case, seed)
    ask_without = pair.do

    def do(name, *arguments):
        if name == "ask":
            ask = arguments[0]
            arguments = (Ask(ask.prompt, ask.most, stops=ask.stops, tape=ask.tape),)
        return ask_without(name, *arguments)

    pair.do = do
    for _ in range(calls):
        pair.one_call(["ask", "step", "step", "step", "guess", "swap_in", "swap_out", "put_off", "fork", "deliver"])
        if pair.source.random() < 0.2:
            deed, *_ = pair.source.choice(pair.wrong_deeds())
            if whole_numbers(deed):
                pair.deeds.append(deed)
    return pair


def whole_numbers(value):
    """Whether there are only integers, rows and names in the deed."""
    if isinstance(value, (tuple, list)):
        return all(whole_numbers(part) for part in value)
    if isinstance(value, Ask):
        return whole_numbers((value.prompt, value.stops, value.tape))
    return type(value) is int or value in ("ask", "step", "put_off", "swap_out", "swap_in", "fork", "cancel", "guess",
                                           "deliver")


class WriteDeeds(Case):
    def test_the_examples(self):
        self.assert_same(write_deeds(EXAMPLE), EXAMPLE_TEXT)
        self.assert_same(write_deeds(deeds=tuple(as_lists(EXAMPLE))), EXAMPLE_TEXT)

    def test_no_deeds(self):
        self.assert_same((write_deeds(()), write_deeds([])), ("", ""))

    def test_every_kind_of_deed(self):
        for deed, text in EVERY:
            self.assert_same(write_deeds((deed,)), text + "\n")
        deeds = [deed for deed, _ in EVERY]
        before = kinds(deeds)
        self.assert_same(write_deeds(deeds), "".join(text + "\n" for _, text in EVERY))
        self.assert_same(kinds(deeds), before)


class ReadDeeds(Case):
    def assert_deeds(self, found, wanted):
        """Just these deeds, in tuples throughout, with asks."""
        self.assert_same(as_values(found), as_values(wanted))
        self.assertEqual({type(found)} | {type(deed) for deed in found}, {tuple})
        for deed in found:
            if deed[0] == "ask":
                self.assertIs(type(deed[1]), Ask)
                self.assertEqual((len(deed), deed[1].rule), (2, None))
            else:
                self.assert_same(deed, as_tuples(deed))

    def test_the_examples(self):
        self.assert_same(read_deeds(EXAMPLE_TEXT), tuple(EXAMPLE))
        self.assert_same(read_deeds(text="(deliver,0)"), ())
        self.assert_same(read_deeds(""), ())

    def test_every_kind_of_deed(self):
        for deed, text in EVERY:
            self.assert_deeds(read_deeds(text + "\n"), [deed])
        deeds = [deed for deed, _ in EVERY]
        self.assert_deeds(read_deeds(write_deeds(deeds)), deeds)
        self.assert_same(write_deeds(read_deeds(write_deeds(deeds))), write_deeds(deeds))

    def test_every_beginning(self):
        deeds = [deed for deed, _ in EVERY]
        text = write_deeds(deeds)
        for end in range(len(text) + 1):
            found = read_deeds(text[:end])
            self.assert_same(len(found), text[:end].count("\n"))
            self.assert_deeds(found, deeds[:len(found)])
            if text[end - 1:end] in ("", "\n"):
                self.assert_same(write_deeds(found), text[:end])

    def test_drawn_deeds(self):
        for seed in range(60):
            pair = drawn(self, seed, 40)
            text = write_deeds(pair.deeds)
            self.assert_deeds(read_deeds(text), pair.deeds)
            self.assert_same(write_deeds(read_deeds(text)), text)


class AfterAFall(Case):
    def assert_equal_houses(self, one, other):
        self.assertEqual(picture(one), picture(other))
        self.assertEqual((one.log(), one.reckoned, one.going()), (other.log(), other.reckoned, other.going()))

    def test_at_every_sign(self):
        for seed in range(8):
            pair = drawn(self, seed, 10)
            text, shape = write_deeds(pair.deeds), pair.shape
            houses = [redo(pair.net, *shape, pair.deeds[:many]) for many in range(len(pair.deeds) + 1)]
            for end in range(len(text) + 1):
                house = redo(pair.net, *shape, read_deeds(text[:end]))
                self.assert_equal_houses(house, houses[text[:end].count("\n")])

    def test_at_every_line(self):
        for seed in range(40):
            pair = drawn(self, seed, 30)
            text, shape = write_deeds(pair.deeds), pair.shape
            for many in range(0, len(pair.deeds) + 1, 5):
                end = len(write_deeds(pair.deeds[:many]))
                for cut in (text[:end], text[:end + pair.source.randint(1, 5)]):
                    house = redo(pair.net, *shape, read_deeds(cut))
                    self.assert_equal_houses(house, redo(pair.net, *shape, pair.deeds[:cut.count("\n")]))
            house = redo(pair.net, *shape, read_deeds(text))
            self.assertEqual(whole_state(house), whole_state(pair.house))

    def test_by_hand(self):
        deeds = [("ask", Ask((0, 1), 4, stops=((3, 0),))), ["step", [[0, 3]]], ("fork", 0, [4]), ["deliver", 0]]
        house = redo(Net(*ROUND), 9, 2, read_deeds(write_deeds(deeds)[:-1]))
        self.assert_same((house.text(0), house.text(1), house.delivered(0)), ((2, 3), (2, 3), 0))
        house = redo(Net(*ROUND), 9, 2, read_deeds(write_deeds(deeds)))
        self.assert_same((house.text(0), house.text(1), house.delivered(0)), ((2, 3), (2, 3), 1))
