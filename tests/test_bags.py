import copy
import itertools
import unittest

from lentbeside.bags import Bag
from lentbeside.bounds import MAX_GOODS
from lentbeside.desks import Desk
from lentbeside.errors import BadBag, BadTimes, Lacking
from samples import ODD_VALUES, W

ALL = [amounts for goods in (1, 2, 3, 4) for amounts in itertools.product(range(3), repeat=goods)]
PAIRS = list(itertools.product(ALL[::3], repeat=2))
NOT_AMOUNTS = ODD_VALUES + (
    (), (1, 2, 3, 4, 5), (-1,), (1, -1), (0, 0, 0, -1), (True,), (1, False), (None,), ("1",), ((1,),), (1, (2,)),
    [1], [0, 0], "1 2", {0: 1}, 5, Bag((1, 2)), (Bag((1,)),), (1, Bag((1,))), Desk(W, Bag((1, 0))), W, ([],),
)
NO_BAGS = ODD_VALUES + ((1, 2), (0, 0, 0), [1, 2], "1 2", Desk(W, Bag((1, 0))), (Bag((1, 2)),), [Bag((1, 2))])


def shown(amounts):
    return " ".join(str(amount) for amount in amounts)


class BagTest(unittest.TestCase):
    def assert_bag(self, value, amounts):
        self.assertIs(type(value), Bag)
        self.assertEqual(repr(value.amounts), repr(tuple(amounts)))

    def test_made_of_amounts(self):
        for amounts in ALL + [(60,) * 4, (10 ** 29,), (0, 10 ** 29)]:
            self.assert_bag(Bag(amounts), amounts)
            self.assert_bag(Bag(amounts=amounts), amounts)

    def test_bad_amounts(self):
        for value in NOT_AMOUNTS:
            before = copy.deepcopy(value)
            with self.assertRaises(BadBag):
                Bag(value)
            self.assertEqual(value, before)

    def test_never_changes(self):
        bag = Bag((1, 2))
        with self.assertRaises(AttributeError):
            bag.amounts = (3, 4)
        other = bag
        other += Bag((1, 1))
        self.assert_bag(bag, (1, 2))
        self.assert_bag(other, (2, 3))
        with self.assertRaises(TypeError):
            bag[0] = 5

    def test_amounts_one_by_one(self):
        for amounts in ALL:
            bag = Bag(amounts)
            self.assertEqual([bag[i] for i in range(len(amounts))], list(amounts))
            self.assertEqual(len(bag), len(amounts))
            self.assertIs(bool(bag), sum(amounts) > 0)
            self.assertEqual(list(bag), list(amounts))
            self.assertEqual([amount for amount in bag], list(amounts))
            self.assertEqual(str(bag), shown(amounts))

    def test_text(self):
        self.assertEqual(str(Bag((10, 0, 3))), "10 0 3")
        self.assertEqual(str(Bag((7,))), "7")

    def test_operators(self):
        for one, other in PAIRS:
            if len(one) == len(other):
                x, y = Bag(one), Bag(other)
                self.assert_bag(x + y, [n + m for n, m in zip(one, other)])
                self.assert_bag(x | y, [max(n, m) for n, m in zip(one, other)])
                self.assert_bag(x & y, [min(n, m) for n, m in zip(one, other)])
                self.assert_bag(x, one)
                self.assert_bag(y, other)

    def test_difference(self):
        for one, other in PAIRS:
            if len(one) == len(other):
                lacking = [good for good, (n, m) in enumerate(zip(one, other)) if n < m]
                if lacking:
                    with self.assertRaises(Lacking) as caught:
                        Bag(one) - Bag(other)
                    self.assertEqual(caught.exception.good, lacking[0])
                else:
                    self.assert_bag(Bag(one) - Bag(other), [n - m for n, m in zip(one, other)])

    def test_bags_for_other_goods(self):
        for one, other in PAIRS:
            if len(one) != len(other):
                for work in (Bag.__add__, Bag.__sub__, Bag.__or__, Bag.__and__):
                    with self.assertRaises(BadBag):
                        work(Bag(one), Bag(other))
                self.assertIs(Bag(other) in Bag(one), False)
                self.assertIs(Bag(other) == Bag(one), False)

    def test_no_bag_on_the_right(self):
        x = Bag((1, 2))
        for value in NO_BAGS:
            for work in (lambda: x + value, lambda: x - value, lambda: x | value, lambda: x & value):
                with self.assertRaises(BadBag):
                    work()
            self.assertIs(value in x, False)
            self.assertIs(x == value, False)
            self.assertIs(x != value, True)

    def test_times(self):
        for amounts in ALL[::3]:
            for times in (0, 1, 2, 7, 10 ** 20):
                self.assert_bag(Bag(amounts) * times, [amount * times for amount in amounts])

    def test_bad_times(self):
        values = [value for value in ODD_VALUES if type(value) is not int or value < 0]
        for value in values + [True, False, -1, "2", (2,), [2], None, Bag((1, 2)), Bag((2,)), Desk(W, Bag((1, 0)))]:
            with self.assertRaises(BadTimes) as caught:
                Bag((1, 2)) * value
            self.assertIs(caught.exception.value, value)

    def test_contains(self):
        for one, other in PAIRS:
            expected = len(one) == len(other) and all(n >= m for n, m in zip(one, other))
            self.assertIs(Bag(other) in Bag(one), expected)
            self.assertIs(Bag(other) not in Bag(one), not expected)

    def test_amounts_are_not_in_a_bag(self):
        self.assertIs(1 in Bag((1, 2)), False)
        self.assertIs((1, 2) in Bag((1, 2)), False)

    def test_equal(self):
        for one, other in PAIRS:
            self.assertIs(Bag(one) == Bag(other), one == other)
            self.assertIs(Bag(one) != Bag(other), one != other)

    def test_of(self):
        for goods in (1, 2, 3, 4):
            for good in range(goods):
                amounts = [0] * goods
                amounts[good] = 1
                self.assert_bag(Bag.of(goods, good), amounts)
                for many in (0, 1, 3, 10 ** 20):
                    amounts[good] = many
                    self.assert_bag(Bag.of(goods, good, many), amounts)
                    self.assert_bag(Bag.of(goods=goods, good=good, many=many), amounts)
                    self.assert_bag(Bag((1,)).of(goods, good, many), amounts)

    def test_equal_calls(self):
        for one, other in PAIRS[::7]:
            if len(one) == len(other):
                x, y = Bag(one), Bag(other)
                for work in (Bag.__add__, Bag.__or__, Bag.__and__, Bag.__contains__, Bag.__eq__):
                    self.assertEqual(work(x, y), work(Bag(one), Bag(other)))
                    self.assertEqual(work(x, y), work(x, y))
                self.assertEqual(x * 3, Bag(one) * 3)
                self.assertEqual(x | y, y | x)
                self.assert_bag(x, one)
                self.assert_bag(y, other)

    def test_limit(self):
        self.assertEqual(Bag.LIMIT, MAX_GOODS)
        self.assertEqual(Bag((1,)).LIMIT, MAX_GOODS)
        self.assert_bag(Bag((1,) * MAX_GOODS), (1,) * MAX_GOODS)
        with self.assertRaises(BadBag):
            Bag((1,) * (MAX_GOODS + 1))


if __name__ == "__main__":
    unittest.main()
