"""Audits: whether a house's blocks are held and filled as they should be, and how many rows and blocks are enough."""


def holders(house):
    """For each block, how many tables of requests have it, plus 1 if the tree has it."""
    held = [request.table.blocks for request in house.requests()]
    held.append([house.tree.block_at(path) for path in house.tree])
    return tuple([len([blocks for blocks in held if block in blocks]) for block in range(house.store.many)])


def faults(house):
    """The words for what is not as it should be in the house."""
    memo = {}
    found = []
    if holders(house) != tuple([house.store.holders(block) for block in range(house.store.many)]):
        found.append("count")
    if not all([has_its_rows(house, request, memo) for request in house.requests()]):
        found.append("rows")
    if not all([has_path_rows(house, path, memo) for path in house.tree]):
        found.append("paths")
    if not all([has_beginning(house, path) for path in house.tree]):
        found.append("open")
    return tuple(found)


def has_its_rows(house, request, memo):
    """Whether the request's table has, block by block, the rows of its first letters."""
    table = request.table
    size = house.store.size
    wanted = rows_once(house.net, request.whole()[:table.length], memo)
    for number in range(0, table.length, size):
        own = wanted[number:number + size]
        if table.blocks[number // size:] == () or rows_in(house, table.blocks[number // size])[:len(own)] != own:
            return False
    return True


def has_path_rows(house, path, memo):
    """Whether the block under the path has just the rows of the path's last letters."""
    wanted = rows_once(house.net, path, memo)[-house.store.size:]
    return rows_in(house, house.tree.block_at(path)) == wanted


def has_beginning(house, path):
    """Whether what the path goes on from is a path, too."""
    size = house.store.size
    return len(path) <= size or path[:-size] in list(house.tree)


def rows_in(house, block):
    """The rows of the block; a free one has none."""
    if house.store.holders(block) == 0:
        return ()
    return house.store.rows(block)


def rows_once(net, letters, memo):
    """The rows of these letters; memo has, by their letters, those that were reckoned before."""
    rows = []
    for end in range(1, len(letters) + 1):
        beginning = letters[:end]
        if beginning not in memo:
            memo[beginning] = net.row(rows, letters[end - 1])
        rows.append(memo[beginning])
    return tuple(rows)


def distinct(rows):
    """How many different beginnings, not empty, these rows of letters have."""
    return len(beginnings(rows, 1))


def blocks_together(rows, size):
    """How many blocks of this size are enough for these rows of letters if equal full ones are shared."""
    open_ends = [row for row in rows if len(row) % size > 0]
    return len(beginnings(rows, size)) + len(open_ends)


def beginnings(rows, size):
    """The different beginnings, not empty, whose length is a multiple of size."""
    found = {}
    for row in rows:
        for end in range(size, len(row) + 1, size):
            found[tuple(row[:end])] = True
    return found
