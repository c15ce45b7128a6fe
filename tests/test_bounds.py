import unittest

from lentbeside import bounds

EXPECTED = {
    "MAX_GOODS": 4, "MAX_TRADES": 4, "MAX_AMOUNT": 3, "MAX_TOTAL": 4, "MAX_STOCK": 60, "MAX_NEAR": 6,
    "MAX_PAPER": 400, "MAX_RULES": 200, "MAX_LENT": 3, "MAX_NEEDED": 12, "MAX_DESK": 6, "MAX_TIMES": 9,
}


class BoundsTest(unittest.TestCase):
    def test_each_name_has_its_value(self):
        for name, value in EXPECTED.items():
            with self.subTest(name):
                self.assertEqual(getattr(bounds, name), value)
                self.assertIs(type(getattr(bounds, name)), int)


if __name__ == "__main__":
    unittest.main()
