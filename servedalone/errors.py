"""The errors of the package. Each keeps the value that it is made with, as it is."""


class ServeError(ValueError):
    """What all errors of the package stand under; never raised itself."""


class InvalidNumber(ServeError):
    """A number is asked for, and this is none that may stand there."""

    def __init__(self, number):
        self.number = number


class InvalidLetter(ServeError):
    """This is no letter of the net."""

    def __init__(self, letter):
        self.letter = letter


class NoRoom(ServeError):
    """There is no room for so many."""

    def __init__(self, many):
        self.many = many


class NotHeld(ServeError):
    """This is no block that has a holder."""

    def __init__(self, block):
        self.block = block


class NotAlone(ServeError):
    """This block has several holders."""

    def __init__(self, block):
        self.block = block


class NoRequest(ServeError):
    """No request has this ticket."""

    def __init__(self, ticket):
        self.ticket = ticket


class NoHouse(ServeError):
    """No house has this number."""

    def __init__(self, house):
        self.house = house


class TooLarge(ServeError):
    """The request with this ticket needs more blocks than there are."""

    def __init__(self, ticket):
        self.ticket = ticket
