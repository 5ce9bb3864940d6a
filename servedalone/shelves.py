"""Shelves: what a tree knows, written as a string, with which the tree of another house is filled beforehand."""


def write_paths(house):
    """A line for each path of the tree: its letters and the rows of its block."""
    return "".join([path_line(house, path) for path in house.tree])


def path_line(house, path):
    """The line of this path."""
    rows = house.store.rows(house.tree.block_at(path))
    told = ";".join([written_numbers(row_numbers(row)) for row in rows])
    return written_numbers(path) + ":" + told + "\n"


def written_numbers(numbers):
    """The digits of these numbers, parted by blanks."""
    return " ".join([str(number) for number in numbers])


def row_numbers(row):
    """All numbers of a row: those of its pairs, then its weights."""
    pairs, weights = row
    found = []
    for key, value in pairs:
        found.extend(key)
        found.extend(value)
    return found + list(weights)


def warm(house, shelf):
    """Puts what the shelf has into the tree, as far as it has a place and there are free blocks; how many blocks."""
    many = 0
    # What comes behind the last line feed is no whole line.
    for line in shelf.split("\n")[:-1]:
        letters, rows = line.split(":")
        path = read_numbers(letters)
        if house.store.free > 0 and house.tree.lacks(path):
            put_path(house, path, [row_of_numbers(house.net, read_numbers(row)) for row in rows.split(";")])
            many += 1
    return many


def put_path(house, path, rows):
    """A block that is free gets these rows and comes under the path."""
    block = house.store.take()
    for row in rows:
        house.store.put_row(block, row)
    house.tree.put(path, block)
    # From here on the tree alone holds it.
    house.store.release(block)


def read_numbers(text):
    """The numbers whose digits are parted by blanks."""
    return tuple([int(digits) for digits in text.split(" ")])


def row_of_numbers(net, numbers):
    """The row that has these numbers."""
    width = net.width
    vectors = [numbers[width * place:width * (place + 1)] for place in range(2 * net.depth)]
    pairs = [(vectors[2 * place], vectors[2 * place + 1]) for place in range(net.depth)]
    return tuple(pairs), numbers[2 * net.depth * width:]
