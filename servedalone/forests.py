"""Forests: several rows of guesses at once, of which the best one is gone along."""

from servedalone.plain import check_letters, with_choice


def guess_best(house, ticket, forest):
    """Hands the row of guesses that is right for longest to the house; how many choices were made."""
    request = house.request(ticket)
    rows = [tuple(guesses) for guesses in forest]
    for guesses in rows:
        check_letters(house.net, guesses)
    if not request.takes_guesses():
        return 0
    coming = coming_letters(house.net, request, rows_of_forest(house.net, request, rows))
    best = max(rows, key=lambda guesses: agreeing(guesses, coming), default=())
    return house.guess(ticket, best)


def rows_of_forest(net, request, forest):
    """For () and each beginning of rows of the forest, the rows of the request's letters and of these behind them."""
    before = request.table.rows()
    found = {(): before + (net.row(before, request.whole()[-1]),)}
    for guesses in forest:
        for end in range(1, len(guesses) + 1):
            beginning = guesses[:end]
            if beginning not in found:
                rows = found[beginning[:-1]]
                found[beginning] = rows + (net.row(rows, beginning[-1]),)
    return found


def coming_letters(net, request, rows):
    """The letters that the request would be given next, as far as the forest goes and one letter further."""
    asked = request.asked
    coming = ()
    while coming in rows:
        text = request.written + coming
        choice = asked.choice(rows[coming][-1][1], text)
        _, word = with_choice(net, asked, text, choice)
        if word in ("stuck", "end"):
            return coming
        coming = coming + (choice,)
        if word is not None:
            return coming
    return coming


def agreeing(guesses, coming):
    """In how many letters, from their beginnings on, these are equal."""
    many = 0
    for guessed, letter in zip(guesses, coming):
        if guessed != letter:
            return many
        many += 1
    return many
