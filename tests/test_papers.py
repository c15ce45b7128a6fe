import copy
import itertools
import unittest
from random import Random

from checkers import added, is_chain_paper, is_parting_paper
from lentbeside.even import even, plainest, the_list
from lentbeside.markets import each_near
from lentbeside.papers import chain_paper, is_chain, is_parting, parting_paper
from samples import (
    DEEP, LONG_MARKETS, ODD_VALUES, W, all_paths, holds_list, market_of, random_markets, random_stocks, with_part,
)

W_LIST = (((1, 1), (2, 0)), ((0, 2), (2, 0)))
PARTS = (
    None, True, False, 0, 1, 2, 3, -1, 401, 10 ** 29, "", "chain", "parting", (), (0, 1), (2, 0), (1, 1, 1), (0, False),
    (0, True), (2, False), (True, False), (0, 0), [], [0, False], [(0, False)], {}, {0: False}, DEEP, W_LIST, [W_LIST],
)


def changed(paper):
    """The paper with each of its parts replaced, left out and doubled."""
    for path in all_paths(paper):
        for part in PARTS:
            yield with_part(paper, path, part)
        *ahead, at = path or (0,)
        around = paper
        for index in ahead:
            around = around[index]
        for rest in (around[:at] + around[at + 1:], around[:at] + around[at:at + 1] + around[at:], list(around)):
            yield with_part(paper, tuple(ahead), rest)


class PaperTest(unittest.TestCase):
    def assert_chain(self, market, one, other, value, expected):
        before = copy.deepcopy(value)
        self.assertIs(is_chain(market, one, other, value), expected, (market, one, other, value))
        self.assertEqual(repr(value), repr(before))

    def assert_parting(self, market, one, other, value, expected):
        before = copy.deepcopy(value)
        self.assertIs(is_parting(market, one, other, value), expected, (market, one, other, value))
        self.assertEqual(repr(value), repr(before))


class ExampleTest(unittest.TestCase):
    def test_point_8_chains(self):
        told = [
            is_chain(W, (1, 2), (3, 0), ("chain", (), ((1, False), (0, True)))),
            is_chain(W, (1, 3), (4, 0), ("chain", (((0, 2), (2, 0), ((1, False), (0, True))),), ((2, False), (0, True)))),
        ]
        self.assertEqual(repr(told), "[True, True]")

    def test_point_8_partings(self):
        told = [
            is_parting(W, (1, 0), (0, 1), ("parting", the_list(W))),
            is_parting(W, (1, 1), (2, 0), ("parting", the_list(W))), is_parting(W, (1, 0), (0, 1), ("parting", ())),
        ]
        self.assertEqual(repr(told), "[True, False, False]")


class FoundPapersTest(PaperTest):
    def assert_papers(self, market, one, other):
        """Just one of both papers is there, and it holds."""
        chain, parting = chain_paper(market, one, other), parting_paper(market, one, other)
        self.assertEqual([chain is None, parting is None].count(True), 1, (market, one, other))
        self.assertIs(parting is None, even(market, one, other))
        if chain is not None:
            self.assertTrue(is_chain_paper(market, one, other, chain), (market, one, other))
            self.assert_chain(market, one, other, chain, True)
            self.assert_parting(market, one, other, chain, False)
        else:
            self.assertTrue(is_parting_paper(market, one, other, parting), (market, one, other))
            self.assert_parting(market, one, other, parting, True)
            self.assert_chain(market, one, other, parting, False)
        self.assertFalse(holds_list(chain) or holds_list(parting))

    def test_random_stocks(self):
        for market in random_markets(120):
            one, other = random_stocks(market, 2)
            self.assert_papers(market, one, other)
            self.assert_papers(market, other, one)

    def test_near_stocks(self):
        for market in random_markets(80):
            stock = random_stocks(market, 1)[0]
            for distance, other in list(each_near(market, stock, 4))[-2:]:
                self.assert_papers(market, stock, other)

    def test_same_stocks(self):
        for market in (W, (1, ()), (4, ()), LONG_MARKETS[0]):
            for stock in ((0,) * market[0], (60,) * market[0]):
                self.assert_papers(market, stock, stock)

    def test_no_trades(self):
        self.assertEqual(chain_paper((2, ()), (1, 2), (1, 2)), ("chain", (), ()))
        self.assertIsNone(chain_paper((2, ()), (1, 2), (2, 1)))
        self.assert_papers((2, ()), (1, 2), (2, 1))

    def test_equal_bags_and_equal_trades(self):
        for words in ("11=11", "20=11 20=11", "20=11 11=20", "00=00 11=11", "12=21 21=12 00=00 12=21"):
            market = market_of(words)
            for one, other in itertools.product(((0, 0), (2, 0), (1, 1), (3, 3), (4, 2)), repeat=2):
                self.assert_papers(market, one, other)

    def test_all_small_stocks(self):
        for market in (W, (2, (((1, 2), (0, 1)), ((3, 0), (0, 2)))), market_of("20=02 31=00")):
            for one in itertools.product(range(3), repeat=2):
                for other in itertools.product(range(3), repeat=2):
                    self.assert_papers(market, one, other)

    def test_each_rule_of_the_list_has_a_chain(self):
        for market in random_markets(60) + list(LONG_MARKETS):
            for left, right in the_list(market)[:12]:
                paper = chain_paper(market, left, right)
                self.assertTrue(is_chain_paper(market, left, right, paper), market)
                self.assertIs(is_chain(market, left, right, paper), True)

    def test_long_lists(self):
        for market in LONG_MARKETS:
            stock = (3,) * market[0]
            self.assert_papers(market, stock, plainest(market, stock))
            one, other = random_stocks(market, 2)
            self.assert_papers(market, one, other)

    def test_stocks_at_the_bound(self):
        for market in random_markets(30) + list(LONG_MARKETS):
            stock = (60,) * market[0]
            end = plainest(market, stock)
            paper = chain_paper(market, stock, end)
            self.assertTrue(is_chain_paper(market, stock, end, paper), market)
            self.assertIs(is_chain(market, stock, end, paper), True)
            other = (60,) * (market[0] - 1) + (59,)
            found = [chain_paper(market, stock, other), parting_paper(market, stock, other)]
            self.assertEqual(found.count(None), 1)
            self.assertIs(is_chain(market, stock, other, found[0]), found[0] is not None)
            self.assertIs(is_parting(market, stock, other, found[1]), found[1] is not None)

    def test_papers_for_other_stocks(self):
        paper = chain_paper(W, (1, 2), (3, 0))
        for one, other in (((3, 0), (1, 2)), ((1, 2), (2, 1)), ((1, 1), (2, 0)), ((2, 2), (3, 0)), ((0, 1), (1, 0))):
            self.assert_chain(W, one, other, paper, is_chain_paper(W, one, other, paper))
        self.assert_chain(W, (2, 2), (4, 0), paper, True)

    def test_equal_calls(self):
        for market in random_markets(20) + [W]:
            one, other = random_stocks(market, 2)
            before = repr((market, one, other))
            self.assertEqual(chain_paper(market, one, other), chain_paper(market, one, other))
            self.assertEqual(parting_paper(market, one, other), parting_paper(market, one, other))
            self.assertEqual(repr((market, one, other)), before)


class IsChainTest(PaperTest):
    paper = ("chain", (((0, 2), (2, 0), ((1, False), (0, True))),), ((2, False), (0, True)))

    def test_holds(self):
        self.assert_chain(W, (1, 3), (4, 0), self.paper, True)
        self.assert_chain(W, (4, 0), (1, 3), ("chain", self.paper[1], ((0, False), (2, True))), True)
        self.assert_chain(W, (5, 5), (5, 5), ("chain", (), ()), True)
        self.assert_chain(W, (5, 5), (5, 5), ("chain", self.paper[1], ()), True)
        self.assert_chain((2, ()), (5, 5), (5, 5), ("chain", (((1, 1), (1, 1), ()),), ((0, True), (0, False))), True)

    def test_a_book_for_many_steps(self):
        more = (1, (((0,), (1,)),))
        book = [((0,), (1,), ((0, False),))]
        for k in range(1, 90):
            book.append(((0,), (2 ** k,), ((k, False), (k, False))))
        self.assert_chain(more, (0,), (2 ** 89 + 1,), ("chain", tuple(book), ((90, False), (1, False))), True)
        self.assert_chain(more, (2 ** 89,), (0,), ("chain", tuple(book), ((90, True),)), True)
        self.assert_chain(more, (2 ** 89 - 1,), (0,), ("chain", tuple(book), ((90, True),)), False)

    def test_any_values(self):
        for value in ODD_VALUES + PARTS + (("chain",), ("chain", ()), ("chain", (), (), ()), ["chain", (), ()]):
            self.assert_chain(W, (1, 3), (4, 0), value, False)
            self.assert_chain(W, (1, 3), (1, 3), value, False)
            for paper in (("chain", (), value), ("chain", value, ()), (value, (), ())):
                self.assert_chain(W, (1, 3), (1, 3), paper, is_chain_paper(W, (1, 3), (1, 3), paper))
            self.assert_chain(W, (1, 3), (1, 3), ("chain", (value,), ()), False)
            self.assert_chain(W, (1, 3), (1, 3), ("chain", (), (value,)), False)

    def test_other_words(self):
        for word in ("", "Chain", "chain ", "parting", None, 0, ("chain",), ["chain"]):
            self.assert_chain(W, (1, 1), (1, 1), (word, (), ()), False)

    def test_bools_and_numbers(self):
        one, other = (1, 1), (2, 0)
        self.assert_chain(W, one, other, ("chain", (), ((0, True),)), True)
        for move in ((False, True), (0, 1), (0, "True"), (0, None), ("0", True), (-2, True), (2, True), (0, True, True)):
            self.assert_chain(W, one, other, ("chain", (), (move,)), False)
        self.assert_chain(W, one, one, ("chain", (((1, True), (1, 1), ()),), ()), False)
        self.assert_chain(W, one, one, ("chain", (((1, 1), (True, 1), ()),), ()), False)
        self.assert_chain(W, one, one, ("chain", (((1, 1), (1, 1), ()),), ()), True)

    def test_moves_that_cannot_be_done(self):
        self.assert_chain(W, (1, 0), (0, 1), ("chain", (), ((0, False),)), False)
        self.assert_chain(W, (0, 1), (1, 0), ("chain", (), ((0, True), (1, False), (1, True))), False)
        self.assert_chain(W, (1, 1), (2, 0), ("chain", (((1, 0), (0, 1), ((0, False),)),), ((0, True),)), False)
        self.assert_chain(W, (0, 1), (2, 0), ("chain", self.paper[1], ((2, False),)), False)

    def test_entries_that_use_themselves_or_later_ones(self):
        itself = ((1, 0), (0, 1), ((2, False),))
        self.assert_chain(W, (1, 0), (0, 1), ("chain", (itself,), ((2, False),)), False)
        self.assert_chain(W, (1, 0), (1, 0), ("chain", (itself,), ()), False)
        later = ((1, 0), (0, 1), ((3, False),)), ((1, 0), (0, 1), ((2, False),))
        self.assert_chain(W, (1, 0), (0, 1), ("chain", later, ((2, False),)), False)
        fine = ((2, 0), (1, 1), ((0, False),))
        self.assert_chain(W, (2, 0), (1, 1), ("chain", (((2, 0), (1, 1), ((3, False),)), fine), ()), False)
        self.assert_chain(W, (2, 0), (1, 1), ("chain", (fine, ((2, 0), (1, 1), ((2, False),))), ((3, False),)), True)

    def test_an_entry_that_is_not_used_must_hold_too(self):
        wrong = ((1, 0), (0, 1), ())
        self.assert_chain(W, (1, 1), (2, 0), ("chain", (wrong,), ((0, True),)), False)
        self.assert_chain(W, (1, 1), (2, 0), ("chain", self.paper[1] + (wrong,), ((0, True),)), False)

    def test_moves_that_end_elsewhere(self):
        self.assert_chain(W, (1, 1), (2, 0), ("chain", (), ()), False)
        self.assert_chain(W, (1, 1), (2, 0), ("chain", (), ((1, True),)), False)
        self.assert_chain(W, (1, 1), (2, 0), ("chain", (((0, 2), (2, 0), ((1, False),)),), ((0, True),)), False)

    def test_bags_for_other_goods(self):
        for bag in ((), (1,), (1, 1, 1), (-1, 1), [1, 1], "11"):
            self.assert_chain(W, (1, 1), (1, 1), ("chain", ((bag, bag, ()),), ()), False)

    def test_parts_replaced(self):
        for value in changed(self.paper):
            self.assert_chain(W, (1, 3), (4, 0), value, is_chain_paper(W, (1, 3), (4, 0), value))

    def test_parts_of_found_papers_replaced(self):
        market = market_of("021=200 003=110 100=012")
        for one, other in (((1, 3, 1), plainest(market, (1, 3, 1))), ((0, 2, 2), plainest(market, (0, 2, 2)))):
            paper = chain_paper(market, one, other)
            values = list(changed(paper))
            for value in Random(14).sample(values, min(len(values), 2000)):
                self.assert_chain(market, one, other, value, is_chain_paper(market, one, other, value))


class IsPartingTest(PaperTest):
    def test_holds(self):
        self.assert_parting(W, (1, 0), (0, 1), ("parting", W_LIST), True)
        self.assert_parting(W, (1, 0), (2, 0), ("parting", W_LIST), True)
        self.assert_parting((2, ()), (1, 0), (2, 0), ("parting", ()), True)
        self.assert_parting((1, (((2,), (2,)),)), (60,), (59,), ("parting", ()), True)

    def test_rules_need_not_be_finished(self):
        one, other = (1, 0), (0, 1)
        held = ((1, 2), (3, 0))
        for rules in (W_LIST[::-1], W_LIST * 2, W_LIST + (held,), (held,) + W_LIST, (((0, 2), (1, 1)), W_LIST[0])):
            self.assert_parting(W, one, other, ("parting", rules), True)
        # A rule that is not kept by the market, but parts the stocks all the same.
        self.assert_parting(W, (1, 0), (0, 0), ("parting", (((2, 0), (1, 0)), ((0, 1), (1, 0)))), True)

    def test_stocks_that_fall_to_the_same(self):
        self.assert_parting(W, (1, 1), (2, 0), ("parting", W_LIST), False)
        self.assert_parting(W, (1, 1), (1, 1), ("parting", W_LIST), False)
        self.assert_parting(W, (1, 0), (0, 1), ("parting", (((1, 0), (0, 0)), ((0, 1), (0, 0)))), False)

    def test_trades_whose_bags_fall_apart(self):
        self.assert_parting(W, (1, 0), (0, 1), ("parting", ()), False)
        self.assert_parting(W, (1, 0), (0, 1), ("parting", W_LIST[:1]), False)
        self.assert_parting(W, (1, 0), (0, 1), ("parting", W_LIST[1:]), False)

    def test_rules_that_do_not_meet(self):
        market = market_of("02=11 20=10")
        rules = (((0, 2), (1, 1)), ((2, 0), (1, 0)), ((1, 1), (0, 0)))
        self.assert_parting(market, (1, 0), (0, 0), ("parting", rules), False)
        one_good = (1, (((3,), (1,)), ((2,), (0,))))
        self.assert_parting(one_good, (0,), (1,), ("parting", (((3,), (1,)), ((2,), (0,)))), True)
        self.assert_parting(one_good, (0,), (1,), ("parting", (((3,), (0,)), ((2,), (0,)))), False)
        self.assert_parting((1, ()), (0,), (1,), ("parting", (((3,), (0,)), ((2,), (0,)))), False)
        self.assert_parting((1, ()), (0,), (1,), ("parting", (((3,), (1,)), ((2,), (0,)))), True)
        self.assert_parting((1, ()), (0,), (1,), ("parting", (((2,), (0,)), ((2,), (1,)))), False)

    def test_rules_that_are_none(self):
        wrong_rules = (
            None, (), ((1, 1),), ((1, 1), (1, 1)), ((2, 0), (1, 1)), ((1, 1), (2, 0), (2, 0)), [(1, 1), (2, 0)],
            ((1, 1), [2, 0]), ((1, True), (2, 0)), ((1, 1), (2, False)), ((1, 1, 0), (2, 0, 0)), ((1,), (0,)), "ab", DEEP,
            ((3, -1), (2, -1)), ((1, "1"), (2, 0)), ((0, 0), (0, 0)),
        )
        for rule in wrong_rules:
            for rules in ((rule,), W_LIST + (rule,), (rule,) + W_LIST):
                self.assert_parting(W, (1, 0), (0, 1), ("parting", rules), False)

    def test_most_rules(self):
        self.assert_parting(W, (1, 0), (0, 1), ("parting", W_LIST * 100), True)
        self.assert_parting(W, (1, 0), (0, 1), ("parting", W_LIST * 100 + W_LIST[:1]), False)
        bags = itertools.product(range(10), repeat=2)
        more = tuple((added(left, bag), added(right, bag)) for bag in bags for left, right in W_LIST)
        for rules in (more, more[::-1]):
            self.assert_parting(W, (1, 0), (0, 1), ("parting", rules), True)
            self.assert_parting(W, (1, 0), (0, 1), ("parting", rules + (((9, 9), (18, 0)),)), False)
            self.assert_parting(W, (1, 0), (0, 1), ("parting", rules[1:] + (((9, 9), (17, 0)),)), False)

    def test_most_rules_for_four_goods(self):
        market = LONG_MARKETS[0]
        chance = Random(15)
        rules = list(the_list(market))
        while len(rules) < 200:
            bag = tuple(chance.randint(0, 20) for _ in range(4))
            left, right = chance.choice(rules[:42])
            rules.append((added(left, bag), added(right, bag)))
        chance.shuffle(rules)
        one, other = (60, 60, 60, 60), (60, 60, 60, 59)
        self.assert_parting(market, one, other, ("parting", tuple(rules)), True)
        self.assert_parting(market, one, other, ("parting", tuple(rules + rules[:1])), False)

    def test_amounts_at_their_bound(self):
        for right in ((800, 0), (401, 0)):
            self.assert_parting(W, (1, 0), (0, 1), ("parting", W_LIST + (((right[0] - 400, 400), right),)), False)
        self.assert_parting(W, (1, 0), (0, 1), ("parting", W_LIST + (((0, 400), (400, 0)),)), True)
        self.assert_parting((1, ()), (0,), (1,), ("parting", (((400,), (399,)),)), True)
        self.assert_parting((1, ()), (0,), (1,), ("parting", (((401,), (400,)),)), False)
        self.assert_parting((1, ()), (0,), (1,), ("parting", (((10 ** 29,), (0,)),)), False)

    def test_any_values(self):
        for value in ODD_VALUES + PARTS + (("parting",), ("parting", (), ()), ["parting", ()], {"parting": ()}):
            self.assert_parting((2, ()), (1, 0), (0, 1), value, False)
            self.assert_parting((2, ()), (1, 0), (0, 1), (value, ()), value == "parting")
            paper = ("parting", value)
            self.assert_parting((2, ()), (1, 0), (0, 1), paper, is_parting_paper((2, ()), (1, 0), (0, 1), paper))
            self.assert_parting((2, ()), (1, 0), (0, 1), ("parting", (value,)), False)

    def test_other_words(self):
        for word in ("", "Parting", "parting ", "chain", None, 0, ("parting",), ["parting"]):
            self.assert_parting(W, (1, 0), (0, 1), (word, W_LIST), False)

    def test_parts_replaced(self):
        for market in (W, (2, ())):
            for value in changed(("parting", W_LIST)):
                expected = is_parting_paper(market, (1, 0), (0, 1), value)
                self.assert_parting(market, (1, 0), (0, 1), value, expected)

    def test_parts_of_found_papers_replaced(self):
        market = market_of("020=101 003=110")
        one, other = (1, 0, 0), (0, 2, 0)
        for value in changed(parting_paper(market, one, other)):
            self.assert_parting(market, one, other, value, is_parting_paper(market, one, other, value))

    def test_random_rules(self):
        chance = Random(16)
        told = {True: 0, False: 0}
        for _ in range(4000):
            goods = chance.randint(1, 3)
            bags = [tuple(chance.randint(0, 2) for _ in range(goods)) for _ in range(8)]
            rules = tuple((one, other) for one, other in zip(bags[::2], bags[1::2]) if (other[-1], sum(other)) < (
                one[-1], sum(one)))
            value = ("parting", rules)
            one, other = (0,) * goods, (1,) * goods
            expected = is_parting_paper((goods, ()), one, other, value)
            self.assert_parting((goods, ()), one, other, value, expected)
            told[expected] += 1
        self.assertGreater(min(told.values()), 300)


if __name__ == "__main__":
    unittest.main()
