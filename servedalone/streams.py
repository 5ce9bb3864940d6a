"""Streams: what of a growing text may not be sent yet."""


def held_back(stops, text):
    """The length of the longest ending of the text that begins a stop and is shorter than it."""
    longest = 0
    for stop in stops:
        longest = max(longest, begun_at_end(tuple(stop), tuple(text)))
    return longest


def begun_at_end(stop, text):
    """How many letters of the stop, but not all, the text ends with at most."""
    for many in range(min(len(stop) - 1, len(text)), 0, -1):
        if text[len(text) - many:] == stop[:many]:
            return many
    return 0
