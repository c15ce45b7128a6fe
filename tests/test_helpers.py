import copy
import itertools
import unittest
from random import Random

from checkers import added, holds, without
from lentbeside.counts import agree
from lentbeside.even import even, the_list
from lentbeside.helpers import barred, for_all, helpers, helps, helps_all, lends, with_note
from lentbeside.lists import fall
from lentbeside.markets import market_error
from samples import W, holds_list, market_of, random_bag

# Markets whose least helpers are many or large.
HARD_MARKETS = (
    market_of("010=301 030=121 103=200"), market_of("202=310 022=100 001=030"), market_of("130=201 202=013 310=201"),
    market_of("002=300 112=031 102=030"), market_of("103=202 130=121 010=300"), market_of("001=200 030=130 202=010"),
)


def small_markets(many):
    """The same markets in every run, of one to three goods with up to three trades."""
    chance = Random(30)
    markets = []
    for k in range(many):
        goods = 1 + k % 3
        trades = [(random_bag(chance, goods), random_bag(chance, goods)) for _ in range(chance.randint(0, 3))]
        markets.append((goods, tuple(trades)))
    return markets


MARKETS = small_markets(90) + [W, market_of("3=1"), market_of("11=11"), market_of("00=03"), market_of("211=111")]


def pair_apart(market, chance):
    """Two stocks that agree; as little as possible lies beside them already."""
    while True:
        gap = (0,) * market[0]
        for give, get in market[1]:
            times = chance.randint(-3, 3)
            gap = tuple(n + times * m for n, m in zip(gap, without(get, give)))
        if max(gap) <= 12 and min(gap) >= -12:
            return tuple(max(n, 0) for n in gap), tuple(max(-n, 0) for n in gap)


def pairs_of_stocks(market, many):
    """Pairs of stocks of which some agree and some do not, and some are at the bound."""
    chance = Random(repr(market))
    pairs = []
    for _ in range(many):
        pairs.append(pair_apart(market, chance))
        pairs.append(tuple(tuple(chance.randint(0, 3) for _ in range(market[0])) for _ in range(2)))
    pairs.append(tuple(tuple(chance.randint(9, 12) for _ in range(market[0])) for _ in range(2)))
    return pairs


QUESTIONS = [(market, one, other) for market in MARKETS for one, other in pairs_of_stocks(market, 2)]
QUESTIONS += [(market, one, other) for market in HARD_MARKETS for one, other in pairs_of_stocks(market, 1)]


def box(goods, most):
    return list(itertools.product(range(most + 1), repeat=goods))


def lent_tuples(goods):
    return [lent for size in range(goods + 1) for lent in itertools.combinations(range(goods), size)]


def least_of(bags):
    return tuple(sorted(bag for bag in bags if not any(bag != other and holds(bag, other) for other in bags)))


def lies_in(bag, region):
    start, lent = region
    return all(n >= m if k in lent else n == m for k, (n, m) in enumerate(zip(bag, start, strict=True)))


def helping(market, one, other):
    """A function that tells whether a bag helps."""
    rules = the_list(market)
    return lambda bag: fall(rules, added(one, bag)) == fall(rules, added(other, bag))


def reachable(market, stock):
    """All stocks that are even with this one; the trades must keep the total."""
    found, edge = {stock}, [stock]
    while edge:
        near = edge.pop()
        for taken, given in [pair for trade in market[1] for pair in (trade, trade[::-1])]:
            if holds(near, taken) and added(without(near, taken), given) not in found:
                found.add(added(without(near, taken), given))
                edge.append(added(without(near, taken), given))
    return found


def level_markets(many):
    """Markets whose trades keep the total."""
    chance = Random(31)
    markets = []
    while len(markets) < many:
        goods = chance.randint(2, 3)
        pairs = [(random_bag(chance, goods), random_bag(chance, goods)) for _ in range(20)]
        markets.append((goods, tuple([pair for pair in pairs if sum(pair[0]) == sum(pair[1])][:chance.randint(1, 3)])))
    return markets


def gaps(market, most):
    """Pairs of stocks with nothing in common that agree, by net numbers of at most so many either way."""
    found = set()
    for numbers in itertools.product(range(-most, most + 1), repeat=len(market[1])):
        gap = (0,) * market[0]
        for number, (give, get) in zip(numbers, market[1]):
            gap = tuple(n + number * m for n, m in zip(gap, without(get, give)))
        found.add((tuple(max(n, 0) for n in gap), tuple(max(-n, 0) for n in gap)))
    return sorted(found)


class HelpsTest(unittest.TestCase):
    def test_even_with_the_bag_added(self):
        chance = Random(32)
        told = []
        for market, one, other in QUESTIONS:
            for most in (1, 4, 48):
                bag = tuple(chance.randint(0, most) for _ in range(market[0]))
                told.append(helps(market, one, other, bag))
                self.assertIs(told[-1], even(market, added(one, bag), added(other, bag)))
        self.assertGreater(min(told.count(True), told.count(False)), 100)

    def test_by_a_search(self):
        for market in level_markets(30):
            for one, other in pairs_of_stocks(market, 1)[:2]:
                for bag in box(market[0], 2):
                    expected = added(other, bag) in reachable(market, added(one, bag))
                    self.assertIs(helps(market, one, other, bag), expected, (market, one, other, bag))

    def test_the_example_market(self):
        for bag in box(2, 4) + [(48, 48), (0, 48), (48, 0)]:
            self.assertIs(helps(W, (1, 0), (0, 1), bag), bag != (0, 0))
            self.assertIs(helps(W, (1, 0), (2, 0), bag), False)
            self.assertIs(helps(W, (1, 1), (2, 0), bag), True)


class HelpersTest(unittest.TestCase):
    def test_all_help_and_are_least(self):
        for market, one, other in QUESTIONS:
            told = helpers(market, one, other)
            self.assertEqual([type(told), list(told)], [tuple, sorted(set(told))])
            for bag in told:
                self.assertEqual([type(bag), len(bag)], [tuple, market[0]])
                self.assertTrue(helps(market, one, other, bag))
                for good in range(market[0]):
                    less = bag[:good] + (bag[good] - 1,) + bag[good + 1:]
                    self.assertFalse(min(less) >= 0 and helps(market, one, other, less), (market, one, other, bag))

    def test_all_of_them(self):
        for market, one, other in QUESTIONS:
            told = helpers(market, one, other)
            is_helper = helping(market, one, other)
            for bag in box(market[0], 5 if market[0] == 3 else 20):
                self.assertEqual(is_helper(bag), any(holds(bag, least) for least in told), (market, one, other, bag))

    def test_some_exactly_if_the_stocks_agree(self):
        told = []
        for market, one, other in QUESTIONS:
            told.append(agree(market, one, other))
            self.assertEqual(bool(helpers(market, one, other)), told[-1], (market, one, other))
        self.assertGreater(min(told.count(True), told.count(False)), 100)

    def test_even_stocks_need_nothing(self):
        for market, one, other in QUESTIONS:
            if even(market, one, other):
                self.assertEqual(helpers(market, one, other), ((0,) * market[0],))

    def test_the_same_for_the_other_way_round(self):
        for market, one, other in QUESTIONS[::5]:
            self.assertEqual(helpers(market, one, other), helpers(market, other, one))

    def test_by_a_search(self):
        for market in level_markets(30):
            for one, other in pairs_of_stocks(market, 1)[:2]:
                found = [bag for bag in box(market[0], 3) if added(other, bag) in reachable(market, added(one, bag))]
                told = [bag for bag in helpers(market, one, other) if max(bag) <= 3]
                self.assertEqual(least_of(found), tuple(told), (market, one, other))

    def test_told_ones(self):
        self.assertEqual(helpers(market_of("3=1"), (0,), (4,)), ((1,),))
        self.assertEqual(helpers(market_of("3=1"), (0,), (12,)), ((1,),))
        self.assertEqual(helpers(market_of("3=1"), (1,), (12,)), ())
        self.assertEqual(helpers((3, ()), (1, 2, 3), (1, 2, 3)), ((0, 0, 0),))
        self.assertEqual(helpers((3, ()), (1, 2, 3), (1, 2, 4)), ())
        self.assertEqual(helpers(market_of("02=20"), (1, 0), (0, 1)), ())
        self.assertEqual(helpers(market_of("13=03"), (12, 0), (0, 0)), ((0, 3),))
        self.assertEqual(helpers(market_of("13=03"), (12, 1), (0, 1)), ((0, 2),))
        self.assertEqual(helpers(market_of("130=030 103=003"), (2, 1, 1), (0, 1, 1)), ((0, 0, 2), (0, 2, 0)))
        self.assertEqual(
            helpers(HARD_MARKETS[1], (0, 3, 0), (0, 0, 0)),
            ((0, 0, 8), (0, 1, 7), (0, 4, 6), (0, 7, 5), (0, 10, 4), (0, 13, 3), (0, 16, 2), (0, 19, 1), (0, 22, 0),
             (1, 0, 5), (1, 2, 4), (1, 5, 3), (1, 8, 2), (1, 11, 1), (1, 14, 0), (2, 0, 2), (2, 3, 1), (2, 6, 0),
             (3, 0, 0)))


class WithNoteTest(unittest.TestCase):
    def test_form(self):
        for goods, trades in MARKETS:
            for lent in lent_tuples(goods):
                told = with_note((goods, trades), lent)
                self.assertIsNone(market_error(told))
                self.assertEqual(told[0], goods + 1)
                self.assertEqual(told[1][:-1], tuple((give + (0,), get + (0,)) for give, get in trades))
                loan = tuple(1 if good in lent else 0 for good in range(goods)) + (1,)
                self.assertEqual(told[1][-1], (loan, (0,) * (goods + 1)))

    def test_even_there_exactly_if_some_bag_of_the_lent_goods_helps(self):
        for market, one, other in QUESTIONS[::2]:
            is_helper = helping(market, one, other)
            for lent in lent_tuples(market[0]):
                # What helps at all helps if there is so much of it.
                bag = tuple(48 if good in lent else 0 for good in range(market[0]))
                told = even(with_note(market, lent), one + (0,), other + (0,))
                self.assertIs(told, is_helper(bag), (market, one, other, lent))

    def test_edges(self):
        self.assertEqual(with_note((1, ()), ()), (2, (((0, 1), (0, 0)),)))
        self.assertEqual(with_note((3, ()), (0, 1, 2)), (4, (((1, 1, 1, 1), (0, 0, 0, 0)),)))
        self.assertEqual(with_note((3, ()), (0, 2)), (4, (((1, 0, 1, 1), (0, 0, 0, 0)),)))


class LendsTest(unittest.TestCase):
    def test_just_the_least_tuples_that_are_enough(self):
        sizes = set()
        for market, one, other in QUESTIONS:
            is_helper = helping(market, one, other)
            enough = [
                lent for lent in lent_tuples(market[0])
                if is_helper(tuple(48 if good in lent else 0 for good in range(market[0])))
            ]
            least = [lent for lent in enough if not any(set(other) < set(lent) for other in enough)]
            told = lends(market, one, other)
            self.assertEqual(told, tuple(sorted(least)), (market, one, other))
            self.assertEqual(bool(told), agree(market, one, other))
            sizes |= {len(lent) for lent in told}
        self.assertEqual(sizes, {0, 1, 2, 3})

    def test_goods_of_the_least_helpers(self):
        for market, one, other in QUESTIONS[::3]:
            used = {tuple(good for good, many in enumerate(bag) if many) for bag in helpers(market, one, other)}
            least = [lent for lent in used if not any(set(other) < set(lent) for other in used)]
            self.assertEqual(lends(market, one, other), tuple(sorted(least)))

    def test_told_ones(self):
        self.assertEqual(lends(W, (1, 0), (2, 0)), ())
        self.assertEqual(lends(market_of("130=030 103=003"), (1, 0, 0), (0, 0, 0)), ((1,), (2,)))
        self.assertEqual(lends(market_of("111=011"), (1, 0, 0), (0, 0, 0)), ((1, 2),))
        self.assertEqual(lends(market_of("211=111"), (1, 0, 0), (0, 0, 0)), ((0, 1, 2),))
        self.assertEqual(lends(market_of("111=011"), (1, 1, 0), (0, 1, 0)), ((2,),))


class BarredTest(unittest.TestCase):
    def assert_form(self, goods, told):
        self.assertIs(type(told), tuple)
        self.assertFalse(holds_list(told))
        for bag, lent in told:
            self.assertEqual([type(bag), len(bag)], [tuple, goods])
            self.assertTrue(all(type(amount) is int and amount >= 0 for amount in bag))
            self.assertEqual([type(lent), list(lent)], [tuple, sorted(set(lent))])
            self.assertTrue(all(type(good) is int and 0 <= good < goods for good in lent))

    def test_no_bag_of_a_region_helps(self):
        for market, one, other in QUESTIONS:
            told = barred(market, one, other)
            self.assert_form(market[0], told)
            rules = {lent: the_list(with_note(market, lent)) for bag, lent in told}
            is_helper = helping(market, one, other)
            for bag, lent in told:
                ends = [fall(rules[lent], added(stock, bag) + (0,)) for stock in (one, other)]
                self.assertNotEqual(ends[0], ends[1], (market, one, other, bag, lent))
                for more in (0, 1, 5, 48):
                    far = tuple(n + more if good in lent else n for good, n in enumerate(bag))
                    self.assertFalse(is_helper(far), (market, one, other, far))

    def test_each_bag_that_does_not_help_lies_in_one(self):
        for market, one, other in QUESTIONS:
            told = barred(market, one, other)
            is_helper = helping(market, one, other)
            for bag in box(market[0], 5 if market[0] == 3 else 20):
                inside = any(lies_in(bag, region) for region in told)
                self.assertEqual(is_helper(bag), not inside, (market, one, other, bag))

    def test_each_bag_at_all_holds_a_least_helper_or_lies_in_one(self):
        for market, one, other in QUESTIONS[::3] + QUESTIONS[-3:]:
            least = helpers(market, one, other)
            told = barred(market, one, other)
            # Behind the greatest amounts that are told nothing changes any more.
            most = max([0] + [max(bag) for bag in least] + [max(bag) for bag, lent in told]) + 1
            for bag in box(market[0], most):
                helped = any(holds(bag, helper) for helper in least)
                self.assertNotEqual(helped, any(lies_in(bag, region) for region in told), (market, one, other, bag))

    def test_edges(self):
        self.assertEqual(barred(W, (1, 1), (2, 0)), ())
        self.assertEqual(barred(W, (1, 0), (0, 1)), (((0, 0), ()),))
        self.assertEqual(barred((3, ()), (0, 0, 0), (0, 0, 0)), ())
        for bag in box(2, 6):
            self.assertTrue(any(lies_in(bag, region) for region in barred(W, (1, 0), (2, 0))))


class HelpsAllTest(unittest.TestCase):
    def test_just_the_bags_that_help_all_pairs(self):
        told = []
        for market in MARKETS:
            rules = the_list(market)
            pairs = gaps(market, 4 if len(market[1]) == 3 else 10)
            for bag in box(market[0], 2) + [(7,) * market[0]]:
                expected = all(fall(rules, added(one, bag)) == fall(rules, added(other, bag)) for one, other in pairs)
                told.append(helps_all(market, bag))
                self.assertIs(told[-1], expected, (market, bag))
        self.assertGreater(min(told.count(True), told.count(False)), 100)

    def test_least_bags(self):
        for market in MARKETS + list(HARD_MARKETS):
            told = for_all(market)
            self.assertIs(type(told), tuple)
            self.assertGreater(len(told), 0)
            self.assertEqual(list(told), sorted(set(told)))
            for bag in told:
                self.assertEqual([type(bag), len(bag)], [tuple, market[0]])
                self.assertIs(helps_all(market, bag), True)
                for good in range(market[0]):
                    less = bag[:good] + (bag[good] - 1,) + bag[good + 1:]
                    self.assertFalse(min(less) >= 0 and helps_all(market, less), (market, bag))

    def test_all_least_bags(self):
        for market in MARKETS:
            told = for_all(market)
            for bag in box(market[0], 4):
                self.assertIs(helps_all(market, bag), any(holds(bag, least) for least in told), (market, bag))

    def test_helps_stocks_of_whatever_amounts(self):
        chance = Random(33)
        for market in MARKETS + list(HARD_MARKETS):
            for bag in for_all(market)[:4]:
                for _ in range(4):
                    one = tuple(chance.randint(0, 60) for _ in range(market[0]))
                    numbers = [chance.randint(-40, 40) for _ in market[1]]
                    other = one
                    for number, (give, get) in zip(numbers, market[1]):
                        other = tuple(n + number * m for n, m in zip(other, without(get, give)))
                    low = tuple(max(0, -n) for n in other)
                    ends = [added(added(stock, low), bag) for stock in (one, other)]
                    self.assertTrue(even(market, ends[0], ends[1]), (market, ends))

    def test_told_ones(self):
        self.assertEqual(for_all(market_of("13=03")), ((0, 3),))
        self.assertEqual(for_all(market_of("3=3")), ((0,),))
        self.assertEqual(for_all(market_of("3=2")), ((2,),))
        self.assertEqual(for_all(market_of("30=00 01=02")), ((0, 1),))
        self.assertEqual(for_all(market_of("130=030 103=003")), ((0, 0, 3), (0, 3, 0)))
        self.assertEqual(for_all(market_of("111=011")), ((0, 1, 1),))
        self.assertEqual(len(for_all(HARD_MARKETS[3])), 32)


class ConventionsTest(unittest.TestCase):
    def all_told(self, market, one, other):
        return [
            helps(market, one, other, one), helpers(market, one, other), lends(market, one, other),
            barred(market, one, other), with_note(market, (0,)), helps_all(market, one), for_all(market),
        ]

    def test_equal_calls_and_arguments(self):
        for market, one, other in QUESTIONS[::11]:
            before = copy.deepcopy((market, one, other))
            told = self.all_told(market, one, other)
            self.assertFalse(holds_list(tuple(told)))
            self.all_told(W, (1, 0), (0, 1))
            self.assertEqual(repr(told), repr(self.all_told(*copy.deepcopy(before))))
            self.assertEqual(repr((market, one, other)), repr(before))

    def test_somewhat_beyond_the_bounds(self):
        market = market_of("2000=1100 0200=1100 0020=0011 0002=0011")
        self.assertEqual(helpers(market, (1, 0, 0, 0), (0, 1, 0, 0)), ((0, 1, 0, 0), (1, 0, 0, 0)))
        self.assertEqual(lends(market, (1, 0, 1, 0), (0, 1, 0, 1)), ((0, 2), (0, 3), (1, 2), (1, 3)))
        self.assertEqual(len(for_all(market)), 4)
        self.assertEqual(helpers(W, (20, 0), (0, 20)), ((0, 0),))
        self.assertTrue(helps(W, (20, 0), (0, 20), (60, 60)))
        self.assertTrue(helps_all(W, (60, 60)))

    def test_keywords(self):
        stocks = {"market": W, "one": (1, 0), "other": (0, 1)}
        self.assertFalse(helps(**stocks, bag=(0, 0)))
        self.assertEqual(helpers(**stocks), ((0, 1), (1, 0)))
        self.assertEqual(lends(**stocks), ((0,), (1,)))
        self.assertEqual(barred(**stocks), barred(W, (1, 0), (0, 1)))
        self.assertEqual(with_note(market=(1, ()), lent=(0,)), (2, (((1, 1), (0, 0)),)))
        self.assertTrue(helps_all(market=W, bag=(1, 0)))
        self.assertEqual(for_all(market=W), ((0, 1), (1, 0)))


if __name__ == "__main__":
    unittest.main()
