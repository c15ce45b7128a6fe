import copy
import unittest

from lentbeside.errors import BadText, MarketError
from lentbeside.texts import market_text, read_market
from samples import DEEP, LONG_MARKETS, ODD_VALUES, W, random_markets


class ExampleTest(unittest.TestCase):
    def test_point_5(self):
        told = [market_text(W), read_market("goods 1\n2 = 0"), read_market("goods 3")]
        words = r"['goods 2\n2 0 = 1 1\n0 2 = 1 1', (1, (((2,), (0,)),)), (3, ())]"
        self.assertEqual(repr(told), words)


class ThereAndBackTest(unittest.TestCase):
    def test_texts(self):
        texts = {
            (1, ()): "goods 1", (4, ()): "goods 4", (1, (((3,), (0,)),) * 4): "goods 1" + "\n3 = 0" * 4,
            (3, (((1, 2, 0), (0, 0, 0)),)): "goods 3\n1 2 0 = 0 0 0",
            (4, (((1, 1, 1, 1), (0, 3, 0, 1)), ((0, 0, 0, 0),) * 2)): "goods 4\n1 1 1 1 = 0 3 0 1\n0 0 0 0 = 0 0 0 0",
        }
        for market, text in texts.items():
            self.assertEqual(market_text(market), text)
            self.assertEqual(read_market(text), market)

    def test_markets(self):
        markets = random_markets(200) + list(LONG_MARKETS)
        for goods in (1, 2, 3, 4):
            empty, most = (0,) * goods, (3,) + (0,) * (goods - 1)
            markets += [(goods, ()), (goods, ((empty, most),) * 4), (goods, ((most, empty),))]
        for market in markets:
            text = market_text(market)
            self.assertIs(type(text), str)
            self.assertEqual(repr(read_market(text)), repr(market))
            self.assertEqual(market_text(market), text)


class ReadMarketTest(unittest.TestCase):
    def assert_bad(self, value, line):
        before = copy.deepcopy(value)
        with self.subTest(value):
            with self.assertRaises(BadText) as caught:
                read_market(value)
            self.assertIsInstance(caught.exception, MarketError)
            self.assertEqual(caught.exception.line, line)
            self.assertIs(type(caught.exception.line), type(line))
        self.assertEqual(repr(value), repr(before))

    def test_not_a_string(self):
        for value in ODD_VALUES + (W, ["goods 2"], ("goods 2",), {"goods 2": 1}, DEEP):
            if type(value) is not str:
                self.assert_bad(value, None)

    def test_first_line(self):
        first_lines = (
            "", " ", "goods", "goods ", "goods  2", " goods 2", "goods 2 ", "goods2", "Goods 2", "goods 0", "goods 5",
            "goods -1", "goods +2", "goods 02", "goods 22", "goods 10", "goods two", "goods 2 2", "good 2", "2",
            "goods 2.", "goods\t2", "goods 2\r", "1 = 0", "goods None", "goods 1_", "x" * 3000,
        )
        for line in first_lines:
            self.assert_bad(line, 0)
            self.assert_bad(line + "\n1 1 = 0 0", 0)
            self.assert_bad(line + "\n\n", 0)
        for value in ODD_VALUES:
            if type(value) is str and not value.startswith("goods"):
                self.assert_bad(value, 0)

    def test_further_lines(self):
        lines = (
            "", " ", "=", " = ", "1 1", "1 1 =", "= 1 1", "1 1 1 1", "1 = 1", "1 1 = 1", "1 = 1 1", "1 1 = 1 1 1",
            "1 1 1 = 1 1", "1 1 = 1 1 ", " 1 1 = 1 1", "1  1 = 1 1", "1 1  = 1 1", "1 1 =  1 1", "1 1=1 1", "11 = 11",
            "1 1 = 1 -1", "+1 1 = 1 1", "-0 1 = 1 1", "01 1 = 1 1", "1 1 = 1 00", "1 1 == 1 1", "1 1 = = 1",
            "= 1 = 1 1", "1 1 = 1 1 = 1 1", "4 0 = 0 0", "0 0 = 0 4", "9 0 = 0 0", "10 0 = 0 0", "3 2 = 0 0",
            "0 0 = 2 3", "3 3 = 3 3", "a b = c d", "1 1 = 1 x", "1\t1 = 1 1", "1 1 = 1 1\r", "1, 1 = 1, 1", "goods 2",
            "1 1 - 1 1", "(1, 1) = (1, 1)", "1_ 1 = 1 1", "1 . = 1 1", "x" * 2900,
        )
        fine = "2 0 = 1 1"
        for line in lines:
            self.assert_bad("goods 2\n" + line, 1)
            self.assert_bad("goods 2\n" + line + "\n" + fine, 1)
            self.assert_bad("\n".join(["goods 2", fine, fine, line, "no line", fine, fine]), 3)
            self.assert_bad("\n".join(["goods 2", fine, fine, fine, line]), 4)

    def test_line_for_other_goods(self):
        lines = {1: "1 = 0", 2: "1 0 = 0 1", 3: "1 0 0 = 0 1 0", 4: "1 0 0 0 = 0 1 0 0"}
        for goods in lines:
            for other in lines:
                text = f"goods {goods}\n{lines[other]}"
                if goods == other:
                    self.assertEqual(len(read_market(text)[1]), 1)
                else:
                    self.assert_bad(text, 1)

    def test_totals_at_their_bound(self):
        self.assertEqual(read_market("goods 2\n3 1 = 1 3"), (2, (((3, 1), (1, 3)),)))
        self.assert_bad("goods 4\n1 1 1 1 = 2 1 1 1", 1)
        self.assert_bad("goods 4\n1 1 1 2 = 1 1 1 1", 1)

    def test_line_feed_at_the_end(self):
        self.assert_bad("goods 2\n", 1)
        self.assert_bad("\n", 0)
        self.assert_bad("\ngoods 2", 0)
        self.assert_bad(market_text(W) + "\n", 3)
        self.assert_bad("goods 1" + "\n1 = 0" * 4 + "\n", 5)
        self.assert_bad("goods 1\n1 = 0\n\n1 = 0", 2)

    def test_too_many_lines(self):
        for many in (5, 6, 400):
            self.assert_bad("goods 1" + "\n1 = 0" * many, 5)
        self.assert_bad("goods 1" + "\n1 = 0" * 4 + "\nno line", 5)
        self.assert_bad("goods 1" + "\n1 = 0" * 3 + "\nno line\n1 = 0", 4)


if __name__ == "__main__":
    unittest.main()
