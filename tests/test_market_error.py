import copy
import unittest

from lentbeside.markets import market_error
from samples import DEEP, ODD_VALUES, W, random_markets

FINE = ((1, 0), (0, 1))


def with_trades(*trades):
    return (2, trades)


class MarketErrorTest(unittest.TestCase):
    def assert_error(self, value, expected):
        before = copy.deepcopy(value)
        with self.subTest(value):
            result = market_error(value)
            self.assertEqual(result, expected)
            if expected is not None:
                self.assertIs(type(result), tuple)
            self.assertEqual(market_error(value), result)
        self.assertEqual(repr(value), repr(before))

    def test_markets(self):
        for goods in (1, 2, 3, 4):
            empty = (0,) * goods
            most = (3,) + (0,) * (goods - 1)
            self.assert_error((goods, ()), None)
            self.assert_error((goods, ((empty, most),)), None)
            self.assert_error((goods, ((most, empty),) * 4), None)
            self.assert_error((goods, ((empty, empty), (most, most))), None)
        self.assert_error(W, None)
        self.assert_error((2, (((3, 1), (1, 3)), ((2, 2), (0, 3)))), None)
        self.assert_error((4, (((1, 1, 1, 1), (0, 0, 1, 3)),)), None)
        for market in random_markets(100):
            self.assert_error(market, None)

    def test_market(self):
        for value in ODD_VALUES + ((), (2,), (2, (), ()), [2, ()], list(W), {2: ()}, "2,"):
            if not (type(value) is tuple and len(value) == 2):
                self.assert_error(value, (None, "market"))

    def test_goods(self):
        for goods in (0, 5, -1, True, False, 10 ** 29, None, "2", (2,), [2], {}, DEEP):
            self.assert_error((goods, ()), (None, "goods"))
        self.assert_error(DEEP, (None, "goods"))
        self.assert_error(("ab", "cd"), (None, "goods"))

    def test_trades(self):
        for trades in (None, True, 0, "", "abcdef", [], [FINE], [FINE] * 5, {}, {0: FINE}):
            self.assert_error((2, trades), (None, "trades"))

    def test_many(self):
        self.assert_error(with_trades(*[FINE] * 4), None)
        self.assert_error(with_trades(*[FINE] * 5), (None, "many"))
        self.assert_error((1, tuple(range(3000))), (None, "many"))

    def test_trade(self):
        wrong_bags = (
            (), (1,), (1, 0, 0), [1, 0], {0: 1, 1: 0}, "10", None, 1, (True, 0), (0, False), (-1, 0), (0, -1),
            ("1", 0), (None, 0), ((1,), 0), (DEEP, 0), DEEP,
        )
        for bag in wrong_bags:
            self.assert_error(with_trades((bag, (0, 1))), (0, "trade"))
            self.assert_error(with_trades(((0, 1), bag)), (0, "trade"))
        for trade in ((), ((1, 0),), ((1, 0),) * 3, [(1, 0), (0, 1)], {(1, 0): 1, (0, 1): 2}, "ab", None, 3, DEEP):
            self.assert_error(with_trades(trade), (0, "trade"))
        self.assert_error((1, (FINE,)), (0, "trade"))
        self.assert_error((3, (FINE,)), (0, "trade"))

    def test_amount(self):
        for bag in ((4, 0), (0, 4), (10 ** 29, 0), (4, 4)):
            self.assert_error(with_trades((bag, (0, 1))), (0, "amount"))
            self.assert_error(with_trades(((0, 1), bag)), (0, "amount"))

    def test_total(self):
        for bag in ((3, 2), (2, 3), (3, 3)):
            self.assert_error(with_trades((bag, (0, 1))), (0, "total"))
            self.assert_error(with_trades(((0, 1), bag)), (0, "total"))
        self.assert_error((4, (((1, 1, 1, 1), (2, 1, 1, 1)),)), (0, "total"))

    def test_the_index_of_the_trade(self):
        for k in range(4):
            for bag, word in (((1,), "trade"), ((4, 0), "amount"), ((3, 2), "total")):
                trades = [FINE] * 4
                trades[k] = (bag, (0, 1))
                self.assert_error(with_trades(*trades), (k, word))

    def test_the_first_listed_is_told(self):
        self.assert_error((5, [], 1), (None, "market"))
        self.assert_error((5, []), (None, "goods"))
        self.assert_error((5, (None,) * 5), (None, "goods"))
        self.assert_error((2, [None] * 5), (None, "trades"))
        self.assert_error((2, (None,) * 5), (None, "many"))
        self.assert_error(with_trades(((4, 0), (0, -1))), (0, "trade"))
        self.assert_error(with_trades(((4, 0), (3, True))), (0, "trade"))
        self.assert_error(with_trades(((3, 3), (0, 4))), (0, "amount"))
        self.assert_error(with_trades(((4, 4), (1, 0))), (0, "amount"))

    def test_the_first_index_is_told(self):
        self.assert_error(with_trades(((3, 2), (0, 0)), ((4, 0), (0, 0)), None), (0, "total"))
        self.assert_error(with_trades(FINE, ((4, 0), (0, 0)), None), (1, "amount"))
        self.assert_error(with_trades(FINE, None, ((4, 0), (0, 0)), None), (1, "trade"))


if __name__ == "__main__":
    unittest.main()
