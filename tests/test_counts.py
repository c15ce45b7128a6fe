import copy
import itertools
import math
import unittest
from random import Random

from checkers import added, without
from lentbeside.counts import agree, counts, net
from lentbeside.even import even
from lentbeside.markets import each_near
from samples import LONG_MARKETS, W, market_of, random_markets, random_stocks

MARKETS = random_markets(150) + list(LONG_MARKETS) + [W, (1, ()), (4, ()), market_of("22=22"), market_of("11=11 20=11")]


def same_count(count, one, other):
    weights, modulus = count
    gap = sum(w * (n - m) for w, n, m in zip(weights, one, other, strict=True))
    return gap == 0 or (modulus > 0 and gap % modulus == 0)


def same_counts(market, one, other):
    return all(same_count(count, one, other) for count in counts(market))


def gain(trade):
    return without(trade[1], trade[0])


def led_to(market, stock, numbers):
    """The stock plus what the trades add, taken so many times."""
    for number, trade in zip(numbers, market[1], strict=True):
        stock = tuple(n + number * m for n, m in zip(stock, gain(trade), strict=True))
    return stock


def with_all_lent(market):
    """The market with a further good that stands for the lack of one of each good."""
    goods, trades = market
    padded = tuple((give + (0,), get + (0,)) for give, get in trades)
    return (goods + 1, padded + (((1,) * (goods + 1), (0,) * (goods + 1)),))


def agreeing(market, chance, stock, most=60):
    """A stock that agrees with this one."""
    while True:
        other = led_to(market, stock, [chance.randint(-3, 3) for _ in market[1]])
        if min(other) >= 0 and max(other) <= most:
            return other


class CountsTest(unittest.TestCase):
    def test_kinds_of_values(self):
        for market in MARKETS:
            told = counts(market)
            self.assertIs(type(told), tuple)
            self.assertLessEqual(len(told), market[0])
            for count in told:
                self.assertEqual([type(count), len(count)], [tuple, 2])
                weights, modulus = count
                self.assertEqual([type(weights), len(weights)], [tuple, market[0]])
                self.assertEqual({type(weight) for weight in weights}, {int})
                self.assertIs(type(modulus), int)
                self.assertTrue(modulus == 0 or modulus >= 2)

    def test_all_trades_keep_them(self):
        for market in MARKETS:
            for count in counts(market):
                for give, get in market[1]:
                    self.assertTrue(same_count(count, give, get), (market, count))

    def test_kept_on_the_way(self):
        for market in MARKETS[:60]:
            for stock in random_stocks(market, 1):
                for distance, other in list(each_near(market, stock, 3))[:10]:
                    self.assertTrue(same_counts(market, stock, other))

    def test_same_counts_exactly_if_they_agree(self):
        seen = {True: 0, False: 0}
        chance = Random(20)
        for market in MARKETS:
            stocks = random_stocks(market, 5)
            stocks.append(agreeing(market, chance, stocks[0]))
            for one, other in itertools.combinations(stocks, 2):
                expected = even(with_all_lent(market), one + (0,), other + (0,))
                self.assertEqual(same_counts(market, one, other), expected, (market, one, other))
                self.assertIs(agree(market, one, other), expected, (market, one, other))
                seen[expected] += 1
        self.assertGreater(min(seen.values()), 300)

    def test_one_good(self):
        for a, b, c, d in itertools.product(range(4), repeat=4):
            market = market_of(f"{a}={b} {c}={d}")
            step = math.gcd(a - b, c - d)
            for one, other in itertools.product(range(8), repeat=2):
                expected = (one - other) % step == 0 if step else one == other
                self.assertIs(agree(market, (one,), (other,)), expected)
                self.assertEqual(same_counts(market, (one,), (other,)), expected)

    def test_no_trades(self):
        for goods in (1, 2, 3, 4):
            stocks = list(itertools.product(range(2), repeat=goods))
            for one, other in itertools.product(stocks, repeat=2):
                self.assertIs(agree((goods, ()), one, other), one == other)
                self.assertEqual(same_counts((goods, ()), one, other), one == other)
                self.assertEqual(net((goods, ()), one, other), () if one == other else None)

    def test_nothing_is_left_to_count(self):
        market = market_of("100=000 010=000 001=000")
        self.assertEqual(counts(market), ())
        self.assertTrue(agree(market, (60, 0, 7), (0, 60, 1)))

    def test_a_modulus(self):
        market = market_of("30=00 02=00")
        for one, other in itertools.product(itertools.product(range(7), repeat=2), repeat=2):
            expected = (one[0] - other[0]) % 3 == 0 and (one[1] - other[1]) % 2 == 0
            self.assertIs(agree(market, one, other), expected)
            self.assertEqual(same_counts(market, one, other), expected)


class NetTest(unittest.TestCase):
    def assert_net(self, market, one, other):
        numbers = net(market, one, other)
        self.assertEqual([type(numbers), len(numbers)], [tuple, len(market[1])])
        self.assertEqual({type(number) for number in numbers} | {int}, {int})
        self.assertEqual(led_to(market, one, numbers), other, (market, one, other))

    def test_leads_from_one_to_the_other(self):
        chance = Random(21)
        for market in MARKETS:
            for stock in random_stocks(market, 3) + [(60,) * market[0], (0,) * market[0]]:
                self.assert_net(market, stock, stock)
                self.assert_net(market, stock, agreeing(market, chance, stock, 100))

    def test_none_exactly_if_they_do_not_agree(self):
        for market in MARKETS:
            for one, other in itertools.permutations(random_stocks(market, 4), 2):
                if agree(market, one, other):
                    self.assert_net(market, one, other)
                else:
                    self.assertIsNone(net(market, one, other))

    def test_even_stocks_agree(self):
        for market in MARKETS[:60]:
            for distance, other in list(each_near(market, random_stocks(market, 1)[0], 3))[:10]:
                self.assert_net(market, random_stocks(market, 1)[0], other)

    def test_the_only_ones(self):
        market = market_of("200=010 003=100")
        for numbers in itertools.product(range(-3, 4), repeat=2):
            other = led_to(market, (20, 20, 20), numbers)
            self.assertEqual(net(market, (20, 20, 20), other), numbers)

    def test_goes_along_with_a_bag_added_to_both(self):
        for market in MARKETS[:60]:
            for one, other in itertools.combinations(random_stocks(market, 3), 2):
                bag = (7,) * market[0]
                self.assertIs(agree(market, one, other), agree(market, added(one, bag), added(other, bag)))


class ConventionsTest(unittest.TestCase):
    def test_equal_calls_and_arguments(self):
        for market in MARKETS[:40]:
            before = copy.deepcopy(market)
            one, other = random_stocks(market, 2)
            told = [counts(market), net(market, one, other), agree(market, one, other)]
            counts(W), net(W, (1, 0), (0, 1)), agree(W, (1, 0), (0, 1))
            self.assertEqual(told, [counts(before), net(before, one, other), agree(before, one, other)])
            self.assertEqual(repr(market), repr(before))

    def test_keywords(self):
        self.assertEqual(counts(market=W), counts(W))
        self.assertTrue(agree(market=W, one=(1, 0), other=(0, 1)))
        self.assertEqual(net(market=W, one=(1, 0), other=(1, 0)), net(W, (1, 0), (1, 0)))


if __name__ == "__main__":
    unittest.main()
