"""Batches: the rows of several jobs, reckoned together, layer by layer."""

from servedalone.nets import behind_layer, pair_of
from servedalone.plain import check_letters


def rows_in_batch(net, jobs):
    """For each job, which has the rows that came before and letters, the rows of its letters."""
    for _, letters in jobs:
        check_letters(net, letters)
    vectors = [first_vectors(net, len(rows), letters) for rows, letters in jobs]
    pairs = [[] for _ in jobs]
    for place in range(net.depth):
        made = [[pair_of(net.layer(place), x, net.prime) for x in xs] for xs in vectors]
        heard = [[row[0][place] for row in rows] for rows, _ in jobs]
        vectors = [next_vectors(net, place, xs, before, own) for xs, before, own in zip(vectors, heard, made)]
        pairs = [layers + [own] for layers, own in zip(pairs, made)]
    return tuple([finished(net, xs, layers) for xs, layers in zip(vectors, pairs)])


def first_vectors(net, many, letters):
    """The vectors with which these letters, behind so many others, go into the layers."""
    return [net.vector_of(letter, many + place) for place, letter in enumerate(letters)]


def next_vectors(net, place, xs, before, own):
    """The vectors of a job behind a layer; before and own are the layer's pairs of the rows before and the letters."""
    layer = net.layer(place)
    return [behind_layer(layer, x, before + own[:number + 1], net.prime) for number, x in enumerate(xs)]


def finished(net, xs, layers):
    """The rows of a job's letters; xs are their last vectors, layers has their pairs layer by layer."""
    rows = []
    for number, x in enumerate(xs):
        rows.append((tuple([own[number] for own in layers]), net.weights_of(x)))
    return tuple(rows)
