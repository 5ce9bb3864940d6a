"""[4]: the errors."""

from servedalone import errors
from tests.helpers import OWN_ERRORS, Case, no_integers

NAMES = {
    "InvalidNumber": "number",
    "InvalidLetter": "letter",
    "NoRoom": "many",
    "NotHeld": "block",
    "NotAlone": "block",
    "NoRequest": "ticket",
    "NoHouse": "house",
    "TooLarge": "ticket",
}


class Errors(Case):
    def test_what_they_stand_under(self):
        self.assertEqual(errors.ServeError.__bases__, (ValueError,))
        for error in OWN_ERRORS:
            self.assertEqual(error.__bases__, (errors.ServeError,))

    def test_none_is_missing(self):
        self.assertEqual([error.__name__ for error in OWN_ERRORS], list(NAMES))

    def test_each_keeps_its_argument(self):
        for name, attribute in NAMES.items():
            for value in [0, 7, -1, 10 ** 399] + no_integers():
                for made in (getattr(errors, name)(value), getattr(errors, name)(**{attribute: value})):
                    self.assertIs(getattr(made, attribute), value)
                    self.assertEqual(list(vars(made)), [attribute])

    def test_each_is_caught_as_its_own_alone(self):
        for error in OWN_ERRORS:
            made = error(3)
            self.assertIsInstance(made, errors.ServeError)
            self.assertEqual([other for other in OWN_ERRORS if isinstance(made, other)], [error])

    def test_each_has_a_text(self):
        for error in OWN_ERRORS:
            self.assertIsInstance(str(error(10 ** 399)), str)
            self.assertIsInstance(repr(error([1, (2,)])), str)
