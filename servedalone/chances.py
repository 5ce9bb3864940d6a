"""Chances: with which shares a net's letters come, and what a round of accepting a lesser net's letters can write."""

from servedalone.plain import check_ask, rows_of, weights_behind
from servedalone.shares import Share, lesser_of


def shares_of(weights):
    """Each weight divided by the sum of the weights."""
    whole = sum(weights)
    return tuple([Share(weight, whole) for weight in weights])


def next_shares(net, letters):
    """The share of each letter behind these letters."""
    return shares_of(weights_behind(net, letters))


def text_share(net, prompt, text):
    """The share with which just these letters come behind the prompt."""
    rows = list(rows_of(net, prompt))
    share = Share(1, 1)
    for letter in text:
        share = share * shares_of(rows[-1][1])[letter]
        rows.append(net.row(rows, letter))
    return share


def told_shares(net, ask, text):
    """For each letter of a text that is written for the ask its share of the weights that the rule lets there."""
    check_ask(net, ask)
    rows = list(rows_of(net, ask.prompt))
    found = []
    for place, letter in enumerate(text):
        found.append(shares_of(ask.counted(rows[-1][1], text[:place]))[letter])
        rows.append(net.row(rows, letter))
    return tuple(found)


def round_shares(net, lesser, prompt, many):
    """What one round of accepting up to so many letters of the lesser net can write, with its share."""
    accepted = [((), Share(1, 1), rows_of(net, prompt), rows_of(lesser, prompt))]
    found = []
    for _ in range(many):
        for draft in accepted:
            found.extend(drawn_instead(draft))
        accepted = all_accepted_behind(net, lesser, accepted)
    for row, share, rows, _ in accepted:
        for letter, part in enumerate(shares_of(rows[-1][1])):
            found.append((row + (letter,), share * part))
    return tuple(sorted(found, key=lambda pair: pair[0]))


def all_accepted_behind(net, lesser, drafts):
    """What accepted_behind tells of each of these drafts."""
    found = []
    for draft in drafts:
        found.extend(accepted_behind(net, lesser, draft))
    return found


def accepted_behind(net, lesser, draft):
    """The accepted letters of the draft with each letter after them that lesser draws and that is accepted."""
    row, share, rows, lesser_rows = draft
    by_net, by_lesser = shares_of(rows[-1][1]), shares_of(lesser_rows[-1][1])
    found = []
    for letter, part in enumerate(by_net):
        # Drawn with share q and accepted with the lesser of 1 and p / q: together the lesser of q and p.
        both = share * lesser_of(part, by_lesser[letter])
        more, lesser_more = (net.row(rows, letter),), (lesser.row(lesser_rows, letter),)
        found.append((row + (letter,), both, rows + more, lesser_rows + lesser_more))
    return found


def drawn_instead(draft):
    """What is written when the letter drawn next is not accepted, with its share."""
    row, share, rows, lesser_rows = draft
    by_net, by_lesser = shares_of(rows[-1][1]), shares_of(lesser_rows[-1][1])
    found = []
    for letter, part in enumerate(by_net):
        # What is not accepted is, in all, as much as net has above lesser, so that this sum falls out.
        if by_lesser[letter].is_below(part):
            found.append((row + (letter,), share * (part - by_lesser[letter])))
    return found
