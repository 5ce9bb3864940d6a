"""Asks: what an asker wants written, and how its letters are chosen."""

from servedalone.basics import is_from
from servedalone.errors import InvalidNumber
from servedalone.nets import by_number, greatest


class Ask:
    """A prompt, and in what way and how far it is to be gone on with."""

    def __init__(self, prompt, most, *, stops=(), tape=(), rule=None):
        if not is_from(most, 1, 30):
            raise InvalidNumber(most)
        self.prompt = tuple(prompt)
        self.most = most
        self.stops = tuple([tuple(stop) for stop in stops])
        self.tape = tuple(tape)
        self.rule = rule

    def choice(self, weights, text):
        """The letter that is written after this text; None if none may be."""
        counted = self.counted(weights, text)
        if max(counted) == 0:
            return None
        if len(self.tape) == 0:
            return greatest(counted)
        return by_number(counted, self.tape[len(text) % len(self.tape)])

    def counted(self, weights, text):
        """The weights, but 0 for letters that the rule does not let after this text."""
        if self.rule is None:
            return weights
        return [weight if self.rule.lets(text, letter) else 0 for letter, weight in enumerate(weights)]
