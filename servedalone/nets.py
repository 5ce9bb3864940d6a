"""Small nets in whole numbers, and how a letter is picked by its weight."""

from servedalone.basics import is_from, is_integer
from servedalone.errors import InvalidLetter, InvalidNumber

PRIMES = (2, 3, 5, 7, 11, 13, 17, 19, 23, 29, 31, 37, 41, 43, 47, 53, 59, 61, 67, 71, 73, 79, 83, 89, 97)


def vectors(rows):
    """These rows of numbers as a tuple of tuples."""
    return tuple([tuple(row) for row in rows])


def fixed_row(row):
    """The row of a letter as tuples throughout."""
    pairs, weights = row
    return tuple([vectors(pair) for pair in pairs]), tuple(weights)


def dot(left, right, prime):
    """The sum of the products of two vectors."""
    return sum([one * other for one, other in zip(left, right)]) % prime


def times(matrix, vector, prime):
    """The matrix times the vector."""
    return tuple([dot(row, vector, prime) for row in matrix])


def plus(left, right, prime):
    """The sum of two vectors."""
    return tuple([(one + other) % prime for one, other in zip(left, right)])


def scaled(number, vector, prime):
    """The number times the vector."""
    return tuple([number * part % prime for part in vector])


def with_heard(x, query, pairs, prime):
    """x increased by each pair's value, as much as its key agrees with the query."""
    for key, value in pairs:
        x = plus(x, scaled(dot(query, key, prime), value, prime), prime)
    return x


def pair_of(layer, x, prime):
    """The layer's pair for this x."""
    _, key, value, _, _ = layer
    return times(key, x, prime), times(value, x, prime)


def squared(vector, prime):
    """The vector of the squares of the vector's numbers."""
    return tuple([part * part % prime for part in vector])


def behind_layer(layer, x, pairs, prime):
    """x behind this layer; pairs are those of the layer for the letters before and for this one."""
    query, _, _, first, second = layer
    x = with_heard(x, times(query, x, prime), pairs, prime)
    return plus(x, times(second, squared(times(first, x, prime), prime), prime), prime)


class Net:
    """A net: what it reckons for a letter depends on the letters up to it alone."""

    def __init__(self, prime, embed, shift, layers, out, end):
        if not is_integer(prime) or prime not in PRIMES:
            raise InvalidNumber(prime)
        self.prime = prime
        self.end = end
        self._embed = vectors(embed)
        self._shift = tuple(shift)
        self._layers = tuple([tuple([vectors(matrix) for matrix in layer]) for layer in layers])
        self._out = vectors(out)

    @property
    def letters(self):
        """How many letters the net has."""
        return len(self._embed)

    @property
    def width(self):
        """How many numbers each vector has."""
        return len(self._shift)

    @property
    def depth(self):
        """How many layers the net has."""
        return len(self._layers)

    def row(self, rows, letter):
        """The row of a letter that comes after letters with these rows."""
        if not is_from(letter, 0, self.letters - 1):
            raise InvalidLetter(letter)
        x = self.vector_of(letter, len(rows))
        pairs = []
        for place, layer in enumerate(self._layers):
            pair = pair_of(layer, x, self.prime)
            x = behind_layer(layer, x, [earlier[0][place] for earlier in rows] + [pair], self.prime)
            pairs.append(pair)
        return tuple(pairs), self.weights_of(x)

    def vector_of(self, letter, many):
        """The vector with which a letter that comes after so many others goes into the layers."""
        return plus(self._embed[letter], scaled(many, self._shift, self.prime), self.prime)

    def layer(self, place):
        """The five matrices of the layer at this place."""
        return self._layers[place]

    def weights_of(self, x):
        """The weights of the letters behind the layers."""
        return tuple([number + 1 for number in times(self._out, x, self.prime)])


def greatest(weights):
    """The lowest letter that has the greatest weight."""
    return weights.index(max(weights))


def by_number(weights, number):
    """The letter in whose share of the weights' sum the number falls."""
    left = number % sum(weights)
    letter = 0
    while left >= weights[letter]:
        left = left - weights[letter]
        letter = letter + 1
    return letter
