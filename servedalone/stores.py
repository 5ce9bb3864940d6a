"""Stores: blocks of memory for rows, each with its holders."""

from servedalone.basics import is_from
from servedalone.errors import InvalidNumber, NoRoom, NotAlone, NotHeld
from servedalone.nets import fixed_row


class Store:
    """So many blocks, each with room for so many rows."""

    def __init__(self, many, size):
        if not is_from(many, 1, 60):
            raise InvalidNumber(many)
        if not is_from(size, 1, 8):
            raise InvalidNumber(size)
        self.many = many
        self.size = size
        self._held = [0] * many
        self._kept = [()] * many

    @property
    def free(self):
        """How many blocks are free."""
        return len([held for held in self._held if held == 0])

    def take(self):
        """The lowest free block, now with one holder."""
        if self.free == 0:
            raise NoRoom(1)
        block = self._held.index(0)
        self._held[block] = 1
        return block

    def hold(self, block):
        """The block gets one holder more."""
        self._check_held(block)
        self._held[block] += 1

    def release(self, block):
        """The block has one holder less; without holders it is free, and its rows are gone."""
        self._check_held(block)
        self._held[block] -= 1
        if self._held[block] == 0:
            self._kept[block] = ()

    def put_row(self, block, row):
        """The row comes after the block's rows."""
        self._check_alone(block)
        if len(self._kept[block]) == self.size:
            raise NoRoom(1)
        self._kept[block] = self._kept[block] + (fixed_row(row),)

    def shorten(self, block, many):
        """Only the block's first many rows stay."""
        self._check_alone(block)
        if not is_from(many, 0, len(self._kept[block])):
            raise InvalidNumber(many)
        self._kept[block] = self._kept[block][:many]

    def rows(self, block):
        """The block's rows."""
        self._check_held(block)
        return self._kept[block]

    def holders(self, block):
        """How many holders the block has."""
        self._check_block(block)
        return self._held[block]

    def _check_block(self, block):
        """Refuses what is no block."""
        if not is_from(block, 0, self.many - 1):
            raise NotHeld(block)

    def _check_held(self, block):
        """Refuses what is no block with a holder."""
        self._check_block(block)
        if self._held[block] == 0:
            raise NotHeld(block)

    def _check_alone(self, block):
        """Refuses what is no block with just one holder."""
        self._check_held(block)
        if self._held[block] > 1:
            raise NotAlone(block)
