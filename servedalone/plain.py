"""What a net writes for an ask alone."""

from servedalone.basics import is_from
from servedalone.errors import InvalidLetter


def check_letters(net, letters):
    """Refuses the first of these that is no letter of the net."""
    for letter in letters:
        if not is_from(letter, 0, net.letters - 1):
            raise InvalidLetter(letter)


def check_ask(net, ask):
    """Refuses the first letter of the prompt, then of the stops, that is none of the net."""
    check_letters(net, ask.prompt)
    for stop in ask.stops:
        check_letters(net, stop)


def rows_of(net, letters):
    """The rows of these letters, each reckoned after those before it."""
    rows = []
    for letter in letters:
        rows.append(net.row(rows, letter))
    return tuple(rows)


def weights_behind(net, letters):
    """The weights of the last of these letters."""
    return rows_of(net, letters)[-1][1]


def stop_at_end(stops, text):
    """How many letters the longest stop has with which the text ends; 0 if there is none."""
    longest = 0
    for stop in stops:
        if len(stop) <= len(text) and text[len(text) - len(stop):] == stop:
            longest = max(longest, len(stop))
    return longest


def with_choice(net, ask, text, choice):
    """The text when this choice is made behind it, and the word that it gets, or None."""
    if choice is None:
        return text, "stuck"
    if choice == net.end:
        return text, "end"
    text = text + (choice,)
    ended = stop_at_end(ask.stops, text)
    if ended > 0:
        return text[:len(text) - ended], "stop"
    if len(text) >= ask.most:
        return text, "most"
    return text, None


def written(net, ask, *, begun=()):
    """What the net writes for an ask alone: the text and the word."""
    check_ask(net, ask)
    check_letters(net, begun)
    text = tuple(begun)
    rows = list(rows_of(net, ask.prompt + text))
    word = None
    while word is None:
        text, word = with_choice(net, ask, text, ask.choice(rows[-1][1], text))
        if word is None:
            rows.append(net.row(rows, text[-1]))
    return text, word
