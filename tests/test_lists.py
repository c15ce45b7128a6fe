import copy
import itertools
import unittest
from random import Random

from checkers import is_plainer, list_fault, slow_fall
from lentbeside.even import the_list
from lentbeside.lists import fall, list_error, plainer
from samples import DEEP, LONG_MARKETS, ODD_VALUES, W, all_paths, holds_list, random_markets, with_part

W_LIST = (((1, 1), (2, 0)), ((0, 2), (2, 0)))


def random_rules(chance, goods, many, most):
    """Rules with amounts of at most so many."""
    rules = []
    while len(rules) < many:
        one, other = [tuple(chance.randint(0, most) for _ in range(goods)) for _ in range(2)]
        if one != other:
            rules.append((one, other) if is_plainer(other, one) else (other, one))
    return tuple(rules)


def by_lefts(rules):
    """The rules in ascending order of their lefts, one for each left."""
    rows = {(rule[0][-1], sum(rule[0]), rule[0]): rule for rule in rules}
    return tuple(rows[key] for key in sorted(rows))


class ExampleTest(unittest.TestCase):
    def test_point_7(self):
        told = [
            list_error(2, the_list(W)), list_error(2, (((0, 2), (2, 0)), ((1, 1), (2, 0)))),
            list_error(1, (((2,), (1,)), ((3,), (0,)))), list_error(2, (((2, 0), (0, 1)),)),
        ]
        self.assertEqual(repr(told), "[None, (1, 'order'), (1, 'held'), (0, 'rule')]")


class PlainerTest(unittest.TestCase):
    def assert_plainer(self, one, other):
        self.assertIs(plainer(one, other), True)
        self.assertIs(plainer(other, one), False)

    def test_by_the_last_good(self):
        self.assert_plainer((9, 9, 0), (0, 0, 1))
        self.assert_plainer((60, 60, 60, 3), (0, 0, 0, 4))
        self.assert_plainer((0,), (1,))
        self.assert_plainer((1, 0), (0, 1))

    def test_by_the_total(self):
        self.assert_plainer((3, 0, 2), (0, 4, 2))
        self.assert_plainer((5, 0, 0, 1), (0, 0, 6, 1))
        self.assert_plainer((0, 1), (1, 1))

    def test_by_the_first_unlike_good(self):
        self.assert_plainer((1, 3, 0, 2), (2, 0, 2, 2))
        self.assert_plainer((2, 0, 2, 2), (2, 1, 1, 2))
        self.assert_plainer((0, 1, 1), (1, 0, 1))

    def test_equal_bags(self):
        for bag in ((0,), (60,), (1, 1), (0, 0, 0), (3, 1, 4, 1)):
            self.assertIs(plainer(bag, bag), False)
            self.assertIs(plainer(bag, tuple(list(bag))), False)

    def test_all_small_bags(self):
        for goods in (1, 2, 3, 4):
            bags = list(itertools.product(range(4 if goods < 4 else 3), repeat=goods))
            for one in bags:
                for other in bags:
                    self.assertIs(plainer(one, other), is_plainer(one, other))

    def test_amounts_beyond_the_bounds(self):
        self.assert_plainer((10 ** 29, 0), (0, 1))
        self.assert_plainer((0, 400), (1, 400))


class FallTest(unittest.TestCase):
    def test_no_rules(self):
        for stock in ((0,), (60,), (1, 2), (60, 60, 60, 60)):
            self.assertEqual(fall((), stock), stock)

    def test_no_rule_can_be_used(self):
        self.assertEqual(fall(W_LIST, (0, 1)), (0, 1))
        self.assertEqual(fall(W_LIST, (60, 0)), (60, 0))
        self.assertEqual(fall(W_LIST, (0, 0)), (0, 0))

    def test_the_first_rule_is_used_first(self):
        to_a, to_b = ((0, 0, 1), (1, 0, 0)), ((0, 0, 1), (0, 1, 0))
        self.assertEqual(fall((to_a, to_b), (0, 0, 5)), (5, 0, 0))
        self.assertEqual(fall((to_b, to_a), (0, 0, 5)), (0, 5, 0))

    def test_an_earlier_rule_is_used_as_soon_as_it_can_be(self):
        two_b = ((0, 2, 0), (0, 0, 0))
        to_b = ((0, 0, 1), (0, 1, 0))
        b_and_c = ((0, 1, 2), (7, 0, 0))
        self.assertEqual(fall((two_b, to_b), (0, 0, 5)), (0, 1, 0))
        self.assertEqual(fall((b_and_c, to_b), (0, 0, 5)), (7, 2, 0))
        self.assertEqual(fall((two_b, b_and_c, to_b), (0, 0, 7)), (14, 1, 0))

    def test_an_earlier_rule_passed_by(self):
        # At four b and two c the first rule can be used; at three and at five b it cannot.
        window = ((0, 4, 2), (50, 0, 0))
        to_b = ((0, 0, 1), (0, 1, 0))
        self.assertEqual(fall((window, to_b), (0, 0, 6)), (50, 0, 0))
        self.assertEqual(fall((window, to_b), (0, 0, 5)), (0, 5, 0))
        self.assertEqual(fall((((0, 4, 0), (0, 0, 0)), to_b), (0, 1, 60)), (0, 1, 0))

    def test_stocks_at_the_bound(self):
        self.assertEqual(fall(W_LIST, (60, 60)), (120, 0))
        self.assertEqual(fall((((1,), (0,)),), (60,)), (0,))
        self.assertEqual(fall((((60,), (59,)),), (60,)), (59,))
        self.assertEqual(fall((((0, 0, 0, 1), (60, 60, 60, 0)),), (60,) * 4), (3660, 3660, 3660, 0))
        self.assertEqual(fall((((60,) * 4, (0,) * 4),), (60,) * 4), (0,) * 4)
        self.assertEqual(fall((((60,) * 4, (0,) * 4),), (60, 60, 59, 60)), (60, 60, 59, 60))

    def test_a_long_fall(self):
        rules = (((0, 1, 0), (0, 0, 0)), ((1, 0, 0), (0, 1, 0)), ((0, 0, 1), (60, 60, 0)))
        self.assertEqual(fall(rules, (60, 60, 60)), (0, 0, 0))

    def test_against_single_uses(self):
        chance = Random(6)
        for _ in range(3000):
            goods, most = chance.randint(1, 4), chance.choice((1, 2, 3, 9))
            rules = random_rules(chance, goods, chance.randint(0, 8), most)
            stock = tuple(chance.randint(0, 12) for _ in range(goods))
            self.assertEqual(fall(rules, stock), slow_fall(rules, stock), (rules, stock))

    def test_stocks_at_the_bound_against_single_uses(self):
        chance = Random(7)
        for _ in range(200):
            goods = chance.randint(1, 4)
            rules = random_rules(chance, goods, chance.randint(1, 6), chance.choice((2, 5, 60)))
            self.assertEqual(fall(rules, (60,) * goods), slow_fall(rules, (60,) * goods), rules)

    def test_results(self):
        end = fall(W_LIST, (3, 3))
        self.assertIs(type(end), tuple)
        self.assertEqual([type(amount) for amount in end], [int, int])
        self.assertEqual(W_LIST, (((1, 1), (2, 0)), ((0, 2), (2, 0))))


class ListErrorTest(unittest.TestCase):
    def assert_error(self, goods, value, expected):
        before = copy.deepcopy(value)
        with self.subTest(value):
            result = list_error(goods, value)
            self.assertEqual(result, expected)
            if expected is not None:
                self.assertEqual([type(result)] + [type(part) for part in result], [tuple, type(expected[0]), str])
            self.assertEqual(list_error(goods, value), result)
        self.assertEqual(repr(value), repr(before))

    def test_finished(self):
        for goods in (1, 2, 3, 4):
            self.assert_error(goods, (), None)
        self.assert_error(2, W_LIST, None)
        self.assert_error(1, (((400,), (0,)),), None)
        self.assert_error(1, (((1,), (0,)),), None)
        self.assert_error(2, (((0, 1), (400, 0)),), None)
        self.assert_error(4, (((1, 0, 0, 0), (0,) * 4), ((0, 0, 0, 1), (0,) * 4)), None)

    def test_finished_with_many_rules(self):
        # All bags of a total of at least five are even with each other.
        bags = [bag for bag in itertools.product(range(6), repeat=4) if sum(bag) == 5]
        last = (0, 0, 5, 0)
        rules = [(bag, last) for bag in bags if bag != last] + [((0, 0, 6, 0), last)]
        self.assert_error(4, by_lefts(rules), None)

    def test_list(self):
        for value in ODD_VALUES + (list(W_LIST), {W_LIST[0]: W_LIST[1]}, [], {}, "", [((2, 0), (0, 1))]):
            if type(value) is not tuple:
                self.assert_error(2, value, (None, "list"))

    def test_rule(self):
        wrong_bags = (
            (), (1,), (1, 1, 0), [1, 1], {1: 0, 0: 0}, "11", None, True, 1, (True, 1), (1, False), (-1, 3), (1, -1),
            ("1", 1), (None, 1), ((1, 1), 1), (1, DEEP), DEEP,
        )
        for bag in wrong_bags:
            self.assert_error(2, ((bag, (0, 0)),), (0, "rule"))
            self.assert_error(2, (((1, 1), bag),), (0, "rule"))
            self.assert_error(2, W_LIST + ((bag, bag), None), (2, "rule"))
        fine = W_LIST[0]
        for rule in ((), (fine[0],), fine + fine, list(fine), {fine[0]: fine[1], fine[1]: 1}, "ab", None, 3, DEEP, True):
            self.assert_error(2, (rule,), (0, "rule"))
            self.assert_error(2, (fine, rule), (1, "rule"))
        self.assert_error(3, W_LIST, (0, "rule"))
        self.assert_error(1, W_LIST, (0, "rule"))

    def test_rule_whose_right_is_not_plainer(self):
        for left, right in (((1, 1), (1, 1)), ((2, 0), (1, 1)), ((1, 0), (2, 0)), ((0, 0), (0, 0)), ((0, 0), (0, 1))):
            self.assert_error(2, ((left, right),), (0, "rule"))
        self.assert_error(3, (((0, 1, 1), (1, 0, 1)),), (0, "rule"))
        self.assert_error(3, (((1, 0, 1), (0, 1, 1)),), None)

    def test_order(self):
        self.assert_error(2, W_LIST[::-1], (1, "order"))
        self.assert_error(2, (W_LIST[0], W_LIST[0]), (1, "order"))
        self.assert_error(2, (W_LIST[0], ((1, 1), (0, 0))), (1, "order"))
        rules = tuple(((n,), (0,)) for n in (1, 5, 3, 2))
        self.assert_error(1, rules, (2, "order"))
        self.assert_error(1, rules[:2] + rules[3:], (2, "order"))

    def test_held_by_a_left(self):
        self.assert_error(1, (((2,), (1,)), ((3,), (0,))), (1, "held"))
        self.assert_error(2, (((0, 1), (3, 0)), ((1, 1), (0, 0))), (1, "held"))
        self.assert_error(2, (((1, 1), (2, 0)), ((0, 2), (2, 0)), ((3, 2), (5, 0))), (2, "held"))

    def test_held_by_a_right(self):
        self.assert_error(2, (((2, 0), (1, 0)), ((0, 1), (5, 0))), (1, "held"))
        self.assert_error(3, (((1, 0, 0), (0, 1, 0)), ((0, 0, 1), (1, 0, 0))), (1, "held"))
        self.assert_error(3, (((0, 1, 1), (2, 0, 0)), ((0, 0, 2), (0, 1, 1))), (1, "held"))
        rules = (((1, 1, 0), (0, 2, 0)), ((2, 0, 0), (1, 0, 0)), ((0, 1, 1), (1, 1, 0)), ((1, 0, 1), (2, 0, 0)))
        self.assert_error(3, rules, (2, "held"))
        self.assert_error(3, rules[:2] + rules[3:], (2, "held"))

    def test_apart(self):
        self.assert_error(2, (((2, 0), (1, 0)), ((1, 1), (0, 0))), (1, "apart"))
        self.assert_error(2, (((1, 1), (0, 0)), ((0, 2), (0, 1))), (1, "apart"))
        three = (((0, 2, 0), (0, 1, 0)), ((2, 0, 0), (1, 0, 0)), ((1, 0, 1), (0, 0, 0)))
        self.assert_error(3, three[:2], None)
        self.assert_error(3, three, (2, "apart"))

    def test_the_first_listed_is_told(self):
        self.assert_error(1, (((3,), (0,)), ((2,), (1,)), None), (2, "rule"))
        self.assert_error(1, (((3,), (0,)), ((2,), (1,))), (1, "order"))
        self.assert_error(2, (((2, 0), (1, 0)), ((1, 1), (0, 0)), ((1, 2), (0, 0))), (2, "held"))
        self.assert_error(2, (((2, 0), (1, 0)), ((1, 1), (0, 0)), ((0, 1), (0, 0))), (2, "order"))

    def test_parts_replaced(self):
        parts = (None, True, False, 0, 1, 3, -1, "", "ab", (), (1, 1), (0, 2), [1, 1], {}, DEEP, W_LIST)
        for rules in (W_LIST, the_list((3, (((1, 0, 0), (0, 2, 1)),)))):
            goods = len(rules[0][0])
            for path in all_paths(rules):
                for part in parts:
                    value = with_part(rules, path, part)
                    self.assert_error(goods, value, list_fault(goods, value))

    def test_odd_values(self):
        for value in ODD_VALUES:
            for goods in (1, 2, 3, 4):
                self.assert_error(goods, value, list_fault(goods, value))

    def test_random_rules(self):
        chance = Random(8)
        told = {}
        for _ in range(6000):
            goods = chance.randint(1, 4)
            rules = random_rules(chance, goods, chance.randint(1, 4), chance.choice((1, 2, 3)))
            for value in (rules, by_lefts(rules)):
                expected = list_fault(goods, value)
                self.assertEqual(list_error(goods, value), expected, value)
                told[expected] = told.get(expected, 0) + 1
        for word in ("order", "held", "apart"):
            for k in (1, 2):
                self.assertGreater(told[(k, word)], 10)
        self.assertGreater(told[None], 100)

    def test_lists_of_markets(self):
        for market in random_markets(40) + list(LONG_MARKETS):
            rules = the_list(market)
            self.assert_error(market[0], rules, None)
            for k in range(len(rules)):
                # Without one of its rules, a list may be finished for another market, or not finished.
                if len(rules) < 8:
                    left_out = rules[:k] + rules[k + 1:]
                    self.assert_error(market[0], left_out, list_fault(market[0], left_out))

    def test_no_lists_in_results(self):
        for value in ((), W_LIST, W_LIST[::-1], None, (None,)):
            self.assertFalse(holds_list(list_error(2, value)))


if __name__ == "__main__":
    unittest.main()
