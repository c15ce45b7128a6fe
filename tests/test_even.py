import copy
import itertools
import unittest
from random import Random

from checkers import added, holds, is_plainer, list_fault, slow_fall, without
from lentbeside.even import even, plainest, the_list
from lentbeside.lists import list_error
from lentbeside.markets import each_near
from samples import LONG_MARKETS, W, holds_list, market_of, random_bag, random_markets, random_stocks

MARKETS = random_markets(150) + list(LONG_MARKETS)


def all_even(market, stock, most):
    """All stocks to which steps lead by way of stocks with amounts of at most so many."""
    found, edge = {stock}, [stock]
    pairs = [pair for trade in market[1] for pair in (trade, trade[::-1])]
    while edge:
        near = edge.pop()
        for taken, given in pairs:
            if holds(near, taken):
                other = added(without(near, taken), given)
                if other not in found and max(other) <= most:
                    found.add(other)
                    edge.append(other)
    return found


def level_market(chance):
    """A market whose trades keep the total."""
    goods = chance.randint(2, 4)
    trades = []
    for _ in range(chance.randint(1, 4)):
        give = random_bag(chance, goods)
        get = random_bag(chance, goods)
        while sum(get) != sum(give):
            get = random_bag(chance, goods)
        trades.append((give, get))
    return (goods, tuple(trades))


def least(bags):
    """The plainest of the bags."""
    best = None
    for bag in bags:
        if best is None or is_plainer(bag, best):
            best = bag
    return best


def fits_a_trade(bag):
    return max(bag) <= 3 and sum(bag) <= 4


class ExampleTest(unittest.TestCase):
    def test_point_7(self):
        told = [
            the_list(W), plainest(W, (1, 2)), even(W, (1, 2), (2, 1)), even(W, (1, 0), (0, 1)), the_list((2, ())),
        ]
        self.assertEqual(repr(told), "[(((1, 1), (2, 0)), ((0, 2), (2, 0))), (3, 0), True, False, ()]")


class TheListTest(unittest.TestCase):
    def test_lists(self):
        lists = {
            (1, ()): (), (4, ()): (), (1, (((2,), (2,)),)): (), (2, (((1, 1),) * 2,) * 4): (),
            (1, (((0,), (3,)),)): (((3,), (0,)),), (1, (((3,), (1,)),)): (((3,), (1,)),),
            (1, (((0,), (3,)), ((3,), (1,)))): (((1,), (0,)),),
            (1, (((3,), (1,)), ((2,), (3,)))): (((2,), (1,)),),
            (2, (((0, 1), (3, 0)), ((0, 1), (0, 0)))): (((3, 0), (0, 0)), ((0, 1), (0, 0))),
            (3, (((1, 0, 0), (0, 1, 0)), ((0, 1, 0), (0, 0, 1)))): (
                ((1, 0, 0), (0, 1, 0)), ((0, 0, 1), (0, 1, 0))),
        }
        for market, rules in lists.items():
            with self.subTest(market):
                self.assertEqual(the_list(market), rules)

    def test_finished(self):
        for market in MARKETS:
            rules = the_list(market)
            self.assertIsNone(list_error(market[0], rules), market)
            if len(rules) < 12:
                self.assertIsNone(list_fault(market[0], rules), market)

    def test_long_lists(self):
        lengths = [len(the_list(market)) for market in LONG_MARKETS]
        self.assertEqual(lengths, [42, 40, 14, 7, 9, 6, 25, 13, 13])
        self.assertEqual(max(max(bag) for rule in the_list(LONG_MARKETS[2]) for bag in rule), 75)

    def test_the_bags_of_each_trade_fall_to_the_same(self):
        for market in MARKETS:
            rules = the_list(market)
            for give, get in market[1]:
                self.assertEqual(slow_fall(rules, give), slow_fall(rules, get), market)

    def test_the_same_for_trades_in_another_way(self):
        chance = Random(9)
        for market in MARKETS:
            goods, trades = market
            rules = the_list(market)
            for _ in range(2):
                turned = [trade[::chance.choice((1, -1))] for trade in trades]
                if trades and len(trades) < 4:
                    turned.append(chance.choice(turned))
                chance.shuffle(turned)
                self.assertEqual(the_list((goods, tuple(turned))), rules, market)
            self.assertEqual(the_list((goods, trades[::-1])), rules, market)

    def test_the_same_with_a_further_trade_between_even_stocks(self):
        tried = 0
        for goods, trades in MARKETS:
            rules = the_list((goods, trades))
            for stock in random_stocks((goods, trades), 3) if len(trades) < 4 else ():
                near = [other for distance, other in each_near((goods, trades), stock, 3)]
                pairs = [(one, other) for one in near for other in near if one != other]
                for pair in [pair for pair in pairs if fits_a_trade(pair[0]) and fits_a_trade(pair[1])][:3]:
                    tried += 1
                    self.assertEqual(the_list((goods, trades + (pair,))), rules)
        self.assertGreater(tried, 20)

    def test_another_with_a_trade_between_stocks_that_are_not_even(self):
        for goods, trades in MARKETS[:60]:
            for pair in itertools.combinations([(0,) * goods, (1,) * goods, (0,) * (goods - 1) + (3,)], 2):
                if len(trades) < 4:
                    same = even((goods, trades), *pair)
                    self.assertIs(the_list((goods, trades + (pair,))) == the_list((goods, trades)), same)

    def test_results_and_arguments(self):
        for market in MARKETS[:30] + [W]:
            before = copy.deepcopy(market)
            rules = the_list(market)
            self.assertIs(type(rules), tuple)
            self.assertFalse(holds_list(rules))
            for rule in rules:
                self.assertEqual([type(rule), len(rule)], [tuple, 2])
                for bag in rule:
                    self.assertEqual([type(amount) for amount in bag], [int] * market[0])
            self.assertEqual(repr(market), repr(before))

    def test_nothing_is_kept(self):
        first = [the_list(market) for market in MARKETS[:40]]
        second = [the_list(market) for market in MARKETS[39::-1]]
        self.assertEqual(first, second[::-1])


class PlainestTest(unittest.TestCase):
    def test_the_plainest_of_all_even_stocks(self):
        chance = Random(10)
        for _ in range(60):
            market = level_market(chance)
            for stock in random_stocks(market, 3):
                together = all_even(market, stock, 100)
                self.assertEqual(plainest(market, stock), least(together), (market, stock))

    def test_one_good(self):
        amounts = range(4)
        for market in [market_of(f"{a}={b} {c}={d}") for a in amounts for b in amounts for c in amounts for d in amounts]:
            for stock in ((0,), (1,), (2,), (3,), (7,), (60,)):
                self.assertEqual(plainest(market, stock), least(all_even(market, stock, 70)), (market, stock))

    def test_falls_by_the_list(self):
        for market in MARKETS[:60]:
            rules = the_list(market)
            for stock in random_stocks(market, 3):
                self.assertEqual(plainest(market, stock), slow_fall(rules, stock))

    def test_is_its_own_plainest(self):
        for market in MARKETS:
            for stock in random_stocks(market, 1) + [(60,) * market[0]]:
                end = plainest(market, stock)
                self.assertIs(type(end), tuple)
                self.assertEqual(plainest(market, end), end)
                self.assertTrue(even(market, stock, end))

    def test_stocks_at_the_bound(self):
        self.assertEqual(plainest(W, (60, 60)), (120, 0))
        self.assertEqual(plainest(W, (0, 60)), (60, 0))
        self.assertEqual(plainest((4, ()), (60,) * 4), (60,) * 4)
        self.assertEqual(plainest((1, (((3,), (1,)),)), (60,)), (2,))
        self.assertEqual(plainest((2, (((0, 1), (3, 0)),)), (60, 60)), (240, 0))


class EvenTest(unittest.TestCase):
    def assert_even(self, market, one, other, expected):
        self.assertIs(even(market, one, other), expected, (market, one, other))
        self.assertIs(even(market, other, one), expected, (market, one, other))

    def test_near_stocks(self):
        for market in MARKETS[:80] + list(LONG_MARKETS):
            for stock in random_stocks(market, 1):
                for distance, other in list(each_near(market, stock, 3))[:8]:
                    self.assert_even(market, stock, other, True)

    def test_near_stocks_at_the_bound(self):
        for market in MARKETS[:30] + list(LONG_MARKETS):
            stock = (60,) * market[0]
            for distance, other in list(each_near(market, stock, 6))[-3:]:
                self.assert_even(market, stock, other, True)

    def test_all_stocks_of_a_total(self):
        chance = Random(11)
        for _ in range(25):
            market = level_market(chance)
            stocks = [stock for stock in itertools.product(range(5), repeat=market[0]) if sum(stock) == 4]
            for one in stocks[::4]:
                together = all_even(market, one, 100)
                for other in stocks[::3]:
                    self.assert_even(market, one, other, other in together)

    def test_one_good(self):
        for words in ("3=1", "2=3", "0=3", "0=2 0=3", "3=0 1=3", "2=2", "1=3 2=3", "3=1 3=0"):
            market = market_of(words)
            for one in range(12):
                together = all_even(market, (one,), 40)
                for other in range(12):
                    self.assert_even(market, (one,), (other,), (other,) in together)

    def test_a_count_that_all_trades_keep(self):
        chance = Random(12)
        tried = 0
        for _ in range(3000):
            goods = chance.randint(1, 4)
            weights = [chance.randint(-2, 3) for _ in range(goods)]
            modulus = chance.choice((0, 2, 3, 5))

            def worth(bag):
                total = sum(n * m for n, m in zip(bag, weights))
                return total % modulus if modulus else total

            pairs = [(random_bag(chance, goods), random_bag(chance, goods)) for _ in range(12)]
            market = (goods, tuple([pair for pair in pairs if worth(pair[0]) == worth(pair[1])][:4]))
            one, other = [tuple(chance.randint(0, 60) for _ in range(goods)) for _ in range(2)]
            if worth(one) != worth(other) and len(market[1]) > 1 and tried < 200:
                tried += 1
                self.assert_even(market, one, other, False)
        self.assertEqual(tried, 200)

    def test_counts_agree_but_something_is_lacking(self):
        self.assert_even(W, (1, 0), (0, 1), False)
        self.assert_even(W, (2, 0), (1, 1), True)
        self.assert_even((1, (((3,), (1,)),)), (0,), (4,), False)
        self.assert_even((1, (((3,), (1,)),)), (1,), (5,), True)

    def test_goes_along_with_a_bag_added_to_both(self):
        chance = Random(13)
        for market in MARKETS[:80]:
            one = random_stocks(market, 1)[0]
            for distance, other in list(each_near(market, one, 2))[:4]:
                bag = tuple(chance.randint(0, 50) for _ in range(market[0]))
                self.assert_even(market, added(one, bag), added(other, bag), True)

    def test_no_trades(self):
        for goods in (1, 2, 3, 4):
            one, other = (60,) * goods, (60,) * (goods - 1) + (59,)
            self.assert_even((goods, ()), one, one, True)
            self.assert_even((goods, ()), one, other, False)

    def test_same_stocks(self):
        for market in MARKETS[:40]:
            for stock in random_stocks(market, 1) + [(0,) * market[0], (60,) * market[0]]:
                self.assert_even(market, stock, stock, True)


if __name__ == "__main__":
    unittest.main()
