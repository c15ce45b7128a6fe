import unittest

from lentbeside import errors
from samples import ODD_VALUES

UNDER_MARKET_ERROR = {
    "BadMarket": "error", "BadStep": "index", "BadText": "line", "BadBag": None, "BadTimes": "value",
    "Lacking": "good", "NotOwed": "good", "TooMuch": "good", "OverCap": None, "NothingToUndo": None,
}


class ErrorsTest(unittest.TestCase):
    def assert_keeps(self, kind, attribute):
        for value in ODD_VALUES:
            self.assertIs(getattr(kind(value), attribute), value)
            self.assertIs(getattr(kind(**{attribute: value}), attribute), value)
        with self.assertRaises(TypeError):
            kind()

    def test_market_error(self):
        self.assertEqual(errors.MarketError.__bases__, (ValueError,))

    def test_classes_under_market_error(self):
        for name, attribute in UNDER_MARKET_ERROR.items():
            with self.subTest(name):
                kind = getattr(errors, name)
                self.assertEqual(kind.__bases__, (errors.MarketError,))
                if attribute is None:
                    self.assertEqual(vars(kind()), {})
                else:
                    self.assert_keeps(kind, attribute)

    def test_no_trade(self):
        self.assertEqual(errors.NoTrade.__bases__, (LookupError,))
        self.assertFalse(issubclass(errors.NoTrade, errors.MarketError))
        self.assertFalse(issubclass(errors.NoTrade, ValueError))
        self.assert_keeps(errors.NoTrade, "value")

    def test_an_error_can_be_caught_by_its_class_and_shown(self):
        with self.assertRaises(errors.MarketError) as caught:
            raise errors.BadMarket((None, "room"))
        self.assertEqual(caught.exception.error, (None, "room"))
        self.assertIsInstance(str(caught.exception), str)


if __name__ == "__main__":
    unittest.main()
