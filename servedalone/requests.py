"""Requests: how far what an asker wants has come in a house."""

from servedalone.nets import fixed_row


class Request:
    """An ask in a house: its text so far, its table, and what was delivered of it."""

    def __init__(self, asked, table, text):
        self.asked = asked
        self.table = table
        self.written = tuple(text)
        self.begun = len(self.written)
        self.ended = None
        self.sent = 0
        self.aside = None

    def whole(self):
        """The letters of the request: its prompt and its text."""
        return self.asked.prompt + self.written

    def is_going(self):
        """Whether the request has no word yet."""
        return self.ended is None

    def is_aside(self):
        """Whether the request is out: its rows are kept aside."""
        return self.aside is not None

    def is_inside(self):
        """Whether the request is going and not out."""
        return self.is_going() and not self.is_aside()

    def lacks_last(self):
        """Whether the table lacks only the last of the letters."""
        return self.table.length == len(self.whole()) - 1

    def takes_guesses(self):
        """Whether letters that somebody guessed can be gone along now."""
        return self.is_inside() and self.lacks_last()

    def reckoned_rows(self):
        """The rows that were reckoned for the request: those aside, or those of its table."""
        if self.is_aside():
            return self.aside
        return self.table.rows()

    def end_with(self, word):
        """The request has this word from now on, and gives its rows back."""
        self.ended = word
        self.aside = None
        self.table.cut(0)

    def state(self):
        """How far the request has come: its text, its word, its rows, and what was delivered."""
        table = self.table
        return self.written, self.begun, self.ended, table.blocks, table.length, self.aside, self.sent

    def set_state(self, state):
        """The request has come as far as this state tells; its table holds the blocks."""
        written, self.begun, self.ended, blocks, length, aside, self.sent = state
        self.written = tuple(written)
        self.aside = None
        if aside is not None:
            self.aside = tuple([fixed_row(row) for row in aside])
        self.table.set_blocks(tuple(blocks), length)

    def told(self):
        """What a log tells of the request."""
        asked = self.asked
        text = self.written
        if self.is_going():
            text = text[:max(self.begun, self.sent)]
        return asked.prompt, asked.most, asked.stops, asked.tape, asked.rule, text, self.ended, self.sent
