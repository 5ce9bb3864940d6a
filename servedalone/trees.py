"""Trees: full blocks under the letters that were read up to their ends."""


class Tree:
    """Paths, each with a block that the tree holds."""

    def __init__(self, store):
        self._store = store
        self._blocks = {}
        self._used = {}
        self._calls = 0
        self._paths = ()

    def known(self, letters):
        """The blocks under the longest path that begins these letters and under the shorter ones."""
        paths = self._beginnings(tuple(letters))
        self._use(paths)
        return tuple([self._blocks[path] for path in paths])

    def block_at(self, path):
        """The block under this path of the tree; looking so is no use."""
        return self._blocks[path]

    def lacks(self, path):
        """Whether the path is none of the tree, but would have its place there; looking so is no use."""
        return path not in self._blocks and self._has_place(path)

    def put(self, path, block):
        """Puts the block under a new path that has a place; the block under the path then, or this one."""
        path = tuple(path)
        if self.lacks(path):
            self._store.hold(block)
            self._blocks[path] = block
            self._sort_paths()
        self._use(self._beginnings(path))
        return self._blocks.get(path, block)

    def drop(self):
        """Drops the path used longest ago of those that nothing else needs; whether there was one."""
        ready = self._droppable()
        if len(ready) == 0:
            return False
        oldest = min(ready, key=lambda path: self._used[path])
        self._store.release(self._blocks[oldest])
        del self._blocks[oldest]
        del self._used[oldest]
        self._sort_paths()
        return True

    def by_last_use(self):
        """The pairs of a path and its block in the order in which drop would take them if only the tree held them."""
        # Who uses a path uses its beginnings, too: they are never used earlier, and go after it.
        paths = sorted(self._blocks, key=lambda path: (self._used[path], -len(path)))
        return tuple([(path, self._blocks[path]) for path in paths])

    def __len__(self):
        return len(self._paths)

    def __iter__(self):
        return iter(self._paths)

    def _beginnings(self, letters):
        """The paths that begin these letters, shortest first."""
        size = self._store.size
        lengths = range(size, len(letters) + 1, size)
        return [letters[:length] for length in lengths if letters[:length] in self._blocks]

    def _has_place(self, path):
        """Whether all that the path goes on from is in the tree."""
        size = self._store.size
        return len(path) <= size or path[:-size] in self._blocks

    def _droppable(self):
        """The paths that are not beginnings of others, and whose block the tree alone holds."""
        size = self._store.size
        begun = {path[:-size]: True for path in self._blocks}
        ends = [path for path in self._blocks if path not in begun]
        return [path for path in ends if self._store.holders(self._blocks[path]) == 1]

    def _use(self, paths):
        """These paths are used, later than all before."""
        # One number for all of a call: of paths that begin one another only the longest can be dropped.
        self._calls += 1
        for path in paths:
            self._used[path] = self._calls

    def _sort_paths(self):
        """Keeps the paths in ascending order, anew, so that an iteration under way is not disturbed."""
        self._paths = tuple(sorted(self._blocks))
