"""Tables: rows one after the other in blocks of a store, which tables may share."""

from servedalone.basics import blocks_for, is_from
from servedalone.errors import InvalidNumber


class Table:
    """The first length rows of its blocks; row i is row i % size of block i // size."""

    def __init__(self, store):
        self.blocks = ()
        self.length = 0
        self._store = store

    def rows(self):
        """The table's rows."""
        found = []
        for block in self.blocks:
            found.extend(self._store.rows(block))
        # The last block may have rows more, left by a cut or put by others.
        return tuple(found[:self.length])

    def has_room(self):
        """Whether a row can be put without a block becoming free before."""
        if self._store.free > 0:
            return True
        return self.length % self._store.size > 0 and self._store.holders(self.blocks[-1]) == 1

    def put_row(self, row):
        """Puts a row after the table's rows."""
        own = self.length % self._store.size
        if own == 0:
            self.blocks = self.blocks + (self._store.take(),)
        elif self._store.holders(self.blocks[-1]) > 1:
            self._part_last(own)
        else:
            self._store.shorten(self.blocks[-1], own)
        self._store.put_row(self.blocks[-1], row)
        self.length += 1

    def _part_last(self, own):
        """Exchanges the last block, which others hold, for a new one with the table's own rows of it."""
        block = self._store.take()
        for row in self._store.rows(self.blocks[-1])[:own]:
            self._store.put_row(block, row)
        self._replace_last(block)

    def _replace_last(self, block):
        """This block, held already, takes the place of the last one, which is released."""
        self._store.release(self.blocks[-1])
        self.blocks = self.blocks[:-1] + (block,)

    def take_over(self, block):
        """A full block is held and comes after the table's blocks."""
        self._store.hold(block)
        self.blocks = self.blocks + (block,)
        self.length += self._store.size

    def exchange_last(self, block):
        """A block with the same rows is held and takes the place of the last one."""
        # Held before the last one is released: it may be the very same block.
        self._store.hold(block)
        self._replace_last(block)

    def cut(self, many):
        """Only the first many rows belong to the table; blocks without such rows are released."""
        if not is_from(many, 0, self.length):
            raise InvalidNumber(many)
        stay = blocks_for(many, self._store.size)
        for block in reversed(self.blocks[stay:]):
            self._store.release(block)
        self.blocks = self.blocks[:stay]
        self.length = many

    def fork(self):
        """Another table with the same blocks and the same length."""
        other = Table(self._store)
        other.set_blocks(self.blocks, self.length)
        return other

    def set_blocks(self, blocks, length):
        """The empty table gets these blocks, each held once more, and this length."""
        for block in blocks:
            self._store.hold(block)
        self.blocks = blocks
        self.length = length
