"""Crews: several members who reckon the rows of one net together, each with its own columns of the matrices."""

from servedalone.basics import is_from
from servedalone.errors import InvalidNumber
from servedalone.nets import fixed_row, plus, squared, with_heard
from servedalone.plain import check_letters

# In each layer the products with query, key, value, first and second are wanted.
PRODUCTS = 5


class Passage:
    """A letter on its way through the layers of a net, product by product."""

    def __init__(self, net, rows, letter):
        self.turn = 0
        self.factor = net.vector_of(letter, len(rows))
        self._net = net
        self._before = tuple([fixed_row(row) for row in rows])
        self._x = self.factor
        self._products = []
        self._pairs = []

    def is_done(self):
        """Whether no product is wanted any more."""
        return self.turn == PRODUCTS * self._net.depth

    def matrix(self):
        """The matrix of the product that is wanted; the vector is factor."""
        return self._net.layer(self.turn // PRODUCTS)[self.turn % PRODUCTS]

    def go_on(self, product):
        """The product that was wanted is there; the next one is wanted."""
        self._products.append(product)
        if len(self._products) == 3:
            self._hear()
            self.factor = self._x
        elif len(self._products) == 4:
            self.factor = squared(product, self._net.prime)
        elif len(self._products) == PRODUCTS:
            self._x = plus(self._x, product, self._net.prime)
            self.factor = self._x
            self._products = []
        self.turn += 1

    def row(self):
        """The row of the letter, when it is done."""
        return tuple(self._pairs), self._net.weights_of(self._x)

    def _hear(self):
        """Query, key and value are there: x is increased by what the layer's pairs tell."""
        query, key, value = self._products
        heard = [row[0][len(self._pairs)] for row in self._before]
        self._pairs.append((key, value))
        self._x = with_heard(self._x, query, heard + [(key, value)], self._net.prime)


class Crew:
    """Members, and the parts of products that are on their way from them."""

    def __init__(self, net, many):
        if not is_from(many, 1, net.width):
            raise InvalidNumber(many)
        self._net = net
        self._many = many
        self._passage = None
        self._parts = []
        self._sum = ()
        self._added = {}

    def begin(self, rows, letter):
        """The row of this letter behind these rows is reckoned from now on, and nothing else."""
        check_letters(self._net, (letter,))
        self._passage = Passage(self._net, rows, letter)
        self._parts = []
        self._begin_round()

    def waiting(self):
        """The parts on their way, each as its round and its member."""
        return tuple(self._parts)

    def deliver(self, number):
        """The part at this place arrives; whether it was added to the sum of its round."""
        part = self._part_taken(number)
        if not self._is_wanted(part):
            return False
        _, member = part
        self._sum = plus(self._sum, self._part_of(member), self._net.prime)
        self._added[member] = True
        if len(self._added) == self._many:
            self._passage.go_on(self._sum)
            self._begin_round()
        return True

    def double(self, number):
        """The part at this place is on its way once more."""
        self._check_place(number)
        self._parts.append(self._parts[number])

    def lose(self, number):
        """The part at this place gets lost; its member sends it anew if it is wanted and no other one of it comes."""
        part = self._part_taken(number)
        if self._is_wanted(part) and part not in self._parts:
            self._parts.append(part)

    def row(self):
        """The row of the letter; None as long as rounds are left."""
        if self._passage is None or not self._passage.is_done():
            return None
        return self._passage.row()

    def _begin_round(self):
        """The next product is wanted, if there is one: all members send their parts."""
        self._sum = (0,) * self._net.width
        self._added = {}
        if not self._passage.is_done():
            self._parts.extend([(self._passage.turn, member) for member in range(self._many)])

    def _check_place(self, number):
        """Refuses what is not the place of a part on its way."""
        if not is_from(number, 0, len(self._parts) - 1):
            raise InvalidNumber(number)

    def _part_taken(self, number):
        """The part at this place, which is on its way no more."""
        self._check_place(number)
        return self._parts.pop(number)

    def _is_wanted(self, part):
        """Whether the part belongs to the present round and was not added yet."""
        turn, member = part
        return turn == self._passage.turn and member not in self._added

    def _part_of(self, member):
        """The member's part of the product that is wanted: the sum over its columns."""
        matrix, vector = self._passage.matrix(), self._passage.factor
        columns = range(member, self._net.width, self._many)
        return tuple([sum([row[k] * vector[k] for k in columns]) % self._net.prime for row in matrix])
