import copy
import inspect
import itertools
import unittest

from lentbeside.errors import BadStep
from lentbeside.markets import each_near, shortest, walk
from samples import DEEP, ODD_VALUES, W, random_markets, random_stocks

NO_TRADES = (2, ())
SAME_BAGS = (2, (((1, 1), (1, 1)), ((2, 0), (0, 1))))
EQUAL_TRADES = (1, (((1,), (2,)), ((1,), (2,))))


def end_of(market, stock, steps):
    """Where the steps lead, written apart from the program; None if one cannot be done."""
    for k, back in steps:
        give, get = market[1][k][::-1] if back else market[1][k]
        stock = tuple(n - m for n, m in zip(stock, give))
        if min(stock) < 0:
            return None
        stock = tuple(n + m for n, m in zip(stock, get))
    return stock


def all_ends(market, stock, most):
    """For each stock to which at most so many steps lead, the first tuple of steps that is tried; shorter ones first."""
    every = list(itertools.product(range(len(market[1])), (False, True)))
    ends = {}
    for many in range(most + 1):
        for steps in itertools.product(every, repeat=many):
            end = end_of(market, stock, steps)
            if end is not None:
                ends.setdefault(end, steps)
    return ends


class ExampleTest(unittest.TestCase):
    def test_point_4(self):
        told = [
            walk(W, (1, 2), ((1, False), (0, True))), list(each_near(W, (0, 2), 1)), shortest(W, (1, 2), (3, 0), 6),
            shortest(W, (1, 0), (0, 1), 6),
        ]
        words = "[((1, 2), (2, 1), (3, 0)), [(0, (0, 2)), (1, (1, 1))], ((0, True), (0, True)), None]"
        self.assertEqual(repr(told), words)


class WalkTest(unittest.TestCase):
    def assert_bad(self, market, stock, steps, index):
        before = copy.deepcopy(steps)
        with self.subTest(steps):
            with self.assertRaises(BadStep) as caught:
                walk(market, stock, steps)
            self.assertEqual(caught.exception.index, index)
            self.assertIs(type(caught.exception.index), int)
        self.assertEqual(repr(steps), repr(before))

    def test_stocks_on_the_way(self):
        self.assertEqual(walk(W, (2, 0), ((0, False), (1, True))), ((2, 0), (1, 1), (0, 2)))
        self.assertEqual(walk(W, (60, 60), ((0, True),) * 2), ((60, 60), (61, 59), (62, 58)))
        self.assertEqual(walk(SAME_BAGS, (1, 1), ((0, False), (0, True))), ((1, 1), (1, 1), (1, 1)))
        self.assertEqual(walk((1, (((0,), (2,)),)), (0,), ((0, False),) * 3), ((0,), (2,), (4,), (6,)))
        self.assertEqual(walk(EQUAL_TRADES, (1,), ((1, False), (0, True))), ((1,), (2,), (1,)))

    def test_no_steps(self):
        for market in (W, NO_TRADES, SAME_BAGS):
            self.assertEqual(walk(market, (3, 4), ()), ((3, 4),))

    def test_many_steps(self):
        way = walk(W, (1, 1), ((0, True), (0, False)) * 700)
        self.assertEqual(way, ((1, 1), (2, 0)) * 700 + ((1, 1),))

    def test_results_are_tuples(self):
        way = walk(W, (1, 2), ((1, False),))
        self.assertIs(type(way), tuple)
        self.assertEqual([type(stock) for stock in way], [tuple, tuple])

    def test_not_a_tuple(self):
        for steps in ODD_VALUES + ([(0, False)], [], {(0, False): 1}):
            if type(steps) is not tuple:
                self.assert_bad(W, (2, 2), steps, -1)

    def test_not_a_step(self):
        wrong_steps = (
            None, True, 0, "ab", "", (), (0,), (0, False, False), [0, False], {0: 1, 1: 2}, DEEP, (DEEP, False),
            (2, False), (-1, False), (10 ** 29, True), (True, False), (False, True), ("0", False), (None, False),
            ([0], True), (0, None), (0, 0), (0, 1), (0, "True"), (0, []), (1, ()), (1, DEEP),
        )
        for step in wrong_steps:
            self.assert_bad(W, (5, 5), (step,), 0)
            self.assert_bad(W, (5, 5), ((0, False), (1, True), step, None), 2)

    def test_no_step_in_a_market_without_trades(self):
        self.assert_bad(NO_TRADES, (5, 5), ((0, False),), 0)

    def test_the_last_trade_is_a_step(self):
        market = (1, (((0,), (1,)),) * 4)
        self.assertEqual(walk(market, (0,), ((3, False),)), ((0,), (1,)))
        self.assert_bad(market, (0,), ((4, False),), 0)

    def test_cannot_be_done(self):
        self.assert_bad(W, (1, 5), ((0, False),), 0)
        self.assert_bad(W, (5, 0), ((0, True),), 0)
        self.assert_bad(W, (1, 2), ((1, False), (1, False)), 1)
        self.assert_bad(W, (1, 1), ((0, True), (0, False), (0, False), None), 2)
        self.assert_bad(SAME_BAGS, (0, 1), ((0, False),), 0)
        self.assert_bad((1, (((2,), (3,)),)), (1,), ((0, False),), 0)

    def test_the_first_one_is_told(self):
        self.assert_bad(W, (2, 0), ((0, False), (1, False), "no step"), 1)
        self.assert_bad(W, (2, 0), ((0, False), "no step", (1, False)), 1)

    def test_against_single_steps(self):
        for market in random_markets(40):
            every = list(itertools.product(range(len(market[1])), (False, True)))
            for stock in random_stocks(market, 2):
                for steps in itertools.product(every, repeat=2):
                    ends = [end_of(market, stock, steps[:many]) for many in range(3)]
                    if None in ends:
                        self.assert_bad(market, stock, steps, ends.index(None) - 1)
                    else:
                        self.assertEqual(walk(market, stock, steps), tuple(ends))


class EachNearTest(unittest.TestCase):
    def test_is_a_generator(self):
        self.assertTrue(inspect.isgeneratorfunction(each_near))
        self.assertTrue(inspect.isgenerator(each_near(W, (0, 2), 1)))

    def test_no_steps(self):
        for market in (W, NO_TRADES, SAME_BAGS):
            self.assertEqual(list(each_near(market, (2, 1), 0)), [(0, (2, 1))])

    def test_no_trades(self):
        for steps in range(7):
            self.assertEqual(list(each_near(NO_TRADES, (2, 1), steps)), [(0, (2, 1))])

    def test_equal_bags_and_equal_trades(self):
        self.assertEqual(list(each_near((1, (((1,), (1,)),)), (5,), 6)), [(0, (5,))])
        self.assertEqual(list(each_near(SAME_BAGS, (2, 1), 6)), [(0, (2, 1)), (1, (0, 2)), (1, (4, 0))])
        self.assertEqual(list(each_near(EQUAL_TRADES, (2,), 2)), [(0, (2,)), (1, (1,)), (1, (3,)), (2, (4,))])

    def test_most_steps(self):
        more = (1, (((0,), (1,)),))
        pairs = [(0, (60,))]
        for distance in range(1, 7):
            pairs += [(distance, (60 - distance,)), (distance, (60 + distance,))]
        self.assertEqual(list(each_near(more, (60,), 6)), pairs)
        line = [(k, (k, 6 - k)) for k in range(1, 7)]
        self.assertEqual(list(each_near(W, (0, 6), 6)), [(0, (0, 6))] + line)

    def test_against_all_steps(self):
        for market in random_markets(60):
            most = 2 if len(market[1]) > 2 else 4
            for stock in random_stocks(market, 2):
                ends = all_ends(market, stock, most)
                for steps in range(most + 1):
                    near = sorted((len(ends[end]), end) for end in ends if len(ends[end]) <= steps)
                    self.assertEqual(list(each_near(market, stock, steps)), near)

    def test_wider_searches_begin_with_narrower_ones(self):
        for market in random_markets(20):
            for stock in random_stocks(market, 1):
                widest = list(each_near(market, stock, 6))
                self.assertEqual(widest, sorted(set(widest)))
                self.assertEqual(len({other for distance, other in widest}), len(widest))
                for steps in range(6):
                    narrow = [pair for pair in widest if pair[0] <= steps]
                    self.assertEqual(list(each_near(market, stock, steps)), narrow)

    def test_pairs_are_tuples_and_calls_are_apart(self):
        one, other = each_near(W, (0, 4), 3), each_near(W, (0, 4), 3)
        pairs = [pair for both in zip(one, other) for pair in both]
        self.assertEqual(pairs[::2], pairs[1::2])
        self.assertEqual(pairs[::2], list(each_near(W, (0, 4), 3)))
        for pair in pairs:
            self.assertEqual([type(pair), type(pair[0]), type(pair[1])], [tuple, int, tuple])


class ShortestTest(unittest.TestCase):
    def test_same_stocks(self):
        for market in (W, NO_TRADES, SAME_BAGS):
            for most in range(7):
                self.assertEqual(shortest(market, (2, 1), (2, 1), most), ())

    def test_no_trades(self):
        self.assertIsNone(shortest(NO_TRADES, (2, 1), (1, 2), 6))

    def test_bound(self):
        self.assertIsNone(shortest(W, (0, 6), (6, 0), 5))
        self.assertEqual(len(shortest(W, (0, 6), (6, 0), 6)), 6)
        self.assertIsNone(shortest(W, (0, 7), (7, 0), 6))
        self.assertIsNone(shortest(W, (1, 1), (2, 0), 0))
        self.assertEqual(shortest(W, (1, 1), (2, 0), 1), ((0, True),))

    def test_least_one_of_the_shortest(self):
        self.assertEqual(shortest(EQUAL_TRADES, (1,), (3,), 6), ((0, False), (0, False)))
        self.assertEqual(shortest(EQUAL_TRADES, (3,), (1,), 6), ((0, True), (0, True)))
        there_and_back = (1, (((2,), (1,)), ((1,), (2,))))
        self.assertEqual(shortest(there_and_back, (1,), (2,), 3), ((0, True),))
        self.assertEqual(shortest(there_and_back, (2,), (1,), 3), ((0, False),))
        two_goods = (2, (((0, 0), (0, 1)), ((0, 0), (1, 0))))
        self.assertEqual(shortest(two_goods, (0, 0), (1, 1), 6), ((0, False), (1, False)))
        self.assertEqual(shortest(two_goods, (1, 1), (0, 0), 6), ((0, True), (1, True)))
        # The shorter one is right though a longer one is less as a tuple.
        long_or_short = (1, (((0,), (1,)), ((0,), (2,))))
        self.assertEqual(shortest(long_or_short, (0,), (2,), 6), ((1, False),))

    def test_against_all_steps(self):
        for market in random_markets(60):
            most = 2 if len(market[1]) > 2 else 4
            for one in random_stocks(market, 2):
                ends = all_ends(market, one, most)
                for other, steps in ends.items():
                    self.assertEqual(shortest(market, one, other, most), steps)
                    self.assertEqual(shortest(market, one, other, len(steps)), steps)
                    if steps:
                        self.assertIsNone(shortest(market, one, other, len(steps) - 1))
                for other in random_stocks(market, 4):
                    self.assertEqual(shortest(market, one, other, most), ends.get(other))

    def test_results_are_tuples(self):
        steps = shortest(W, (1, 2), (3, 0), 6)
        self.assertIs(type(steps), tuple)
        self.assertEqual([(type(step), type(step[0]), type(step[1])) for step in steps], [(tuple, int, bool)] * 2)

    def test_equal_calls_return_equal_results(self):
        first = [shortest(W, (0, 4), (k, 4 - k), 6) for k in range(5)]
        second = [shortest(W, (0, 4), (k, 4 - k), 6) for k in reversed(range(5))]
        self.assertEqual(first, second[::-1])


if __name__ == "__main__":
    unittest.main()
