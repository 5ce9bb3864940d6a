"""Rules: which letters may follow in a text."""


class Rule:
    """States with steps from one to the next, each by a letter."""

    def __init__(self, start, steps):
        self.start = start
        self.steps = tuple([tuple(row) for row in steps])

    def after(self, text):
        """The state after these letters, from start on; None if there is no step."""
        state = self.start
        for letter in text:
            if state is None:
                return None
            state = self.steps[state][letter]
        return state

    def lets(self, text, letter):
        """Whether there is a step with this letter after the text."""
        state = self.after(text)
        return state is not None and self.steps[state][letter] is not None

    def __eq__(self, other):
        return isinstance(other, Rule) and self.start == other.start and self.steps == other.steps
