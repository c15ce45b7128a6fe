import copy
import itertools
import unittest
from random import Random

from checkers import added, holds, without
from lentbeside.bags import Bag
from lentbeside.desks import CappedDesk, Desk
from lentbeside.errors import (
    BadBag, BadMarket, BadTimes, Lacking, MarketError, NoTrade, NotOwed, NothingToUndo, OverCap, TooMuch,
)
from lentbeside.even import even
from lentbeside.helpers import helpers
from lentbeside.markets import market_error, shortest
from samples import ODD_VALUES, W, market_of, random_bag

NO_BAGS = ODD_VALUES + (
    (1, 0), [1, 0], "1 0", Bag((1,)), Bag((1, 0, 0)), Bag((1, 0, 0, 0)), (Bag((1, 0)),), [Bag((1, 0))],
    Desk(W, Bag((1, 0))), W,
)
NO_MARKETS = ODD_VALUES + (
    (2,), (2, (), ()), (0, ()), (5, ()), (True, ()), (2, []), (2, (1,)), (2, (((1, 0), (0, 1)),) * 5), list(W),
    (2, (((1, 0), (4, 0)),)), (2, (((3, 2), (0, 0)),)), (2, (((1, 0), [0, 1]),)), Bag((2, 0)), (Bag((2, 0)), ()),
    (2, Bag((2, 0))), (2, ((Bag((2, 0)), Bag((1, 1))),)), Desk(W, Bag((1, 0))),
)
NO_ROOM = ((4, ()), (1, (((1,), (0,)),) * 4), (4, (((1, 0, 0, 0), (0, 1, 0, 0)),) * 4))


class Refused(Exception):
    """What the model says in place of an error: its class and its values."""

    def __init__(self, kind, **values):
        self.what = (kind, values)


class Model:
    """A desk as the document tells it, over plain tuples, with a copy of all for each deed."""

    def __init__(self, market, stock, cap=None):
        self.market, self.cap = market, cap
        self.rows = [(stock, (0,) * market[0])]

    def first(self, tests, kind):
        for good, test in enumerate(tests):
            if test:
                raise Refused(kind, good=good)

    def add(self, stock, debt):
        self.rows.append((stock, debt))
        return len(self.rows) - 1

    def trade(self, k, back, times):
        stock, debt = self.rows[-1]
        if type(k) is not int or k not in range(len(self.market[1])):
            raise Refused(NoTrade, value=k)
        if type(times) is not int or times not in range(1, 10):
            raise Refused(BadTimes, value=times)
        taken, given = self.market[1][k][::-1] if back else self.market[1][k]
        for _ in range(times):
            self.first([n < m for n, m in zip(stock, taken)], Lacking)
            stock = added(without(stock, taken), given)
        self.first([n > 6 for n in stock], TooMuch)
        return self.add(stock, debt)

    def borrow(self, bag):
        stock, debt = self.rows[-1]
        if bag is None:
            raise Refused(BadBag)
        if self.cap is not None and sum(debt) + sum(bag) > self.cap:
            raise Refused(OverCap)
        self.first([n + more > 6 or m + more > 6 for n, m, more in zip(stock, debt, bag)], TooMuch)
        return self.add(added(stock, bag), added(debt, bag))

    def pay(self, bag):
        stock, debt = self.rows[-1]
        if bag is None:
            raise Refused(BadBag)
        self.first([n < less for n, less in zip(debt, bag)], NotOwed)
        self.first([n < less for n, less in zip(stock, bag)], Lacking)
        return self.add(without(stock, bag), without(debt, bag))

    def undo(self):
        if len(self.rows) == 1:
            raise Refused(NothingToUndo)
        self.rows.pop()


def small_market(chance):
    goods = chance.randint(1, 3)
    trades = [(random_bag(chance, goods), random_bag(chance, goods)) for _ in range(chance.randint(0, 3))]
    return (goods, tuple(trades))


def told(call, *values, **more):
    """The result of a call, or the class and the values of its error."""
    try:
        return call(*values, **more)
    except Refused as refused:
        return refused.what
    except (MarketError, NoTrade) as error:
        return (type(error), vars(error))


class DeskCase(unittest.TestCase):
    def assert_state(self, desk, stock, debt, version):
        self.assertEqual((type(desk.stock), desk.stock.amounts), (Bag, stock))
        self.assertEqual((type(desk.debt), desk.debt.amounts), (Bag, debt))
        self.assertEqual((type(desk.version), desk.version, len(desk)), (int, version, version))
        self.assertIs(desk.settled, sum(debt) == 0)
        cap = f", cap {desk.cap}" if isinstance(desk, CappedDesk) else ""
        words = [" ".join(str(n) for n in bag) for bag in (stock, debt)]
        self.assertEqual(str(desk), f"{words[0]} owes {words[1]}{cap}")

    def assert_refused(self, desk, kind, values, call, *arguments, **more):
        before = (desk.stock.amounts, desk.debt.amounts, desk.version)
        with self.assertRaises(kind) as caught:
            call(*arguments, **more)
        self.assertIs(type(caught.exception), kind)
        self.assertEqual(vars(caught.exception), values)
        self.assert_state(desk, *before)


class MakingTest(DeskCase):
    def test_at_first(self):
        for market in (W, (1, ()), (3, ()), market_of("111=011 200=002 003=003")):
            for amounts in ((0,) * market[0], (6,) * market[0], (1,) + (0,) * (market[0] - 1)):
                stock = Bag(amounts)
                for desk in (Desk(market, stock), CappedDesk(market, stock, 5), Desk(market=market, stock=stock)):
                    self.assert_state(desk, amounts, (0,) * market[0], 0)
                    self.assertEqual(desk.market, market)
                    self.assertEqual(stock.amounts, amounts)

    def test_bad_market(self):
        for value in NO_MARKETS:
            for stock in (Bag((1, 0)), Bag((7, 7)), None, 5, Bag((1,))):
                for make in (lambda: Desk(value, stock), lambda: CappedDesk(value, stock, -1)):
                    with self.assertRaises(BadMarket) as caught:
                        make()
                    self.assertEqual(caught.exception.error, market_error(value))
                    self.assertIsNotNone(caught.exception.error)

    def test_no_room(self):
        for market in NO_ROOM:
            for stock in (Bag((1,) * market[0]), Bag((7,) * market[0]), None):
                for make in (lambda: Desk(market, stock), lambda: CappedDesk(market, stock, -1)):
                    with self.assertRaises(BadMarket) as caught:
                        make()
                    self.assertEqual(caught.exception.error, (None, "room"))

    def test_bad_stock(self):
        for value in NO_BAGS:
            for make in (lambda: Desk(W, value), lambda: CappedDesk(W, value, -1)):
                with self.assertRaises(BadBag):
                    make()

    def test_too_much(self):
        for amounts, good in (((7, 0), 0), ((0, 7), 1), ((7, 7), 0), ((6, 10 ** 20), 1)):
            for make in (lambda: Desk(W, Bag(amounts)), lambda: CappedDesk(W, Bag(amounts), -1)):
                with self.assertRaises(TooMuch) as caught:
                    make()
                self.assertEqual(caught.exception.good, good)

    def test_bad_cap(self):
        values = [value for value in ODD_VALUES if type(value) is not int or value < 0]
        for value in values + [True, False, "5", (5,), [5], Bag((5, 0)), Desk(W, Bag((1, 0)))]:
            with self.assertRaises(BadTimes) as caught:
                CappedDesk(W, Bag((1, 0)), value)
            self.assertIs(caught.exception.value, value)

    def test_cap(self):
        for cap in (0, 1, 5, 10 ** 29):
            desk = CappedDesk(W, Bag((1, 0)), cap)
            self.assertEqual((type(desk.cap), desk.cap), (int, cap))
            self.assertEqual(str(desk), f"1 0 owes 0 0, cap {cap}")
        self.assertIsInstance(desk, Desk)
        self.assertEqual(CappedDesk(market=W, stock=Bag((1, 0)), cap=3).cap, 3)

    def test_only_read(self):
        desk = CappedDesk(W, Bag((1, 0)), 5)
        for name in ("market", "stock", "debt", "version", "settled", "cap"):
            with self.assertRaises(AttributeError):
                setattr(desk, name, getattr(desk, name))


class TradeTest(DeskCase):
    def test_steps(self):
        desk = Desk(W, Bag((2, 0)))
        self.assertEqual(desk.trade(0), 1)
        self.assert_state(desk, (1, 1), (0, 0), 1)
        self.assertEqual(desk.trade(1, back=True), 2)
        self.assert_state(desk, (0, 2), (0, 0), 2)
        self.assertEqual(desk.trade(1, back=False, times=1), 3)
        self.assertEqual(desk.trade(k=0, back=True), 4)
        self.assert_state(desk, (2, 0), (0, 0), 4)

    def test_many_times_are_one_deed(self):
        desk = Desk(W, Bag((6, 0)))
        self.assertEqual(desk.trade(0, times=5), 1)
        self.assert_state(desk, (1, 5), (0, 0), 1)
        self.assertEqual(desk.trade(0, times=5, back=True), 2)
        desk.undo()
        self.assert_state(desk, (1, 5), (0, 0), 1)

    def test_parameters_behind_the_star(self):
        desk = Desk(W, Bag((2, 0)))
        with self.assertRaises(TypeError):
            desk.trade(0, True)
        self.assert_state(desk, (2, 0), (0, 0), 0)

    def test_no_trade(self):
        desk = Desk(W, Bag((0, 0)))
        values = [value for value in ODD_VALUES if type(value) is not int or value not in (0, 1)]
        for value in values + [2, -1, -2, True, False, "0", (0,), [0], Bag((0, 0)), desk]:
            for times in (1, 0, 10, None):
                with self.assertRaises(NoTrade) as caught:
                    desk.trade(value, times=times)
                self.assertIs(caught.exception.value, value)
        self.assert_state(desk, (0, 0), (0, 0), 0)
        desk = Desk((2, ()), Bag((6, 6)))
        self.assert_refused(desk, NoTrade, {"value": 0}, desk.trade, 0)

    def test_bad_times(self):
        desk = Desk(W, Bag((0, 0)))
        values = [value for value in ODD_VALUES if type(value) is not int or not 1 <= value <= 9]
        for value in values + [0, 10, -1, True, "1", (1,), Bag((1, 1)), desk]:
            with self.assertRaises(BadTimes) as caught:
                desk.trade(1, times=value)
            self.assertIs(caught.exception.value, value)
        self.assert_state(desk, (0, 0), (0, 0), 0)

    def test_lacking(self):
        desk = Desk(W, Bag((2, 0)))
        self.assert_refused(desk, Lacking, {"good": 1}, desk.trade, 1)
        self.assert_refused(desk, Lacking, {"good": 1}, desk.trade, 0, back=True)
        self.assert_refused(desk, Lacking, {"good": 0}, desk.trade, 0, times=2)
        self.assert_refused(desk, Lacking, {"good": 0}, desk.trade, 0, times=9)
        three = Desk(market_of("011=300 121=000"), Bag((5, 0, 0)))
        self.assert_refused(three, Lacking, {"good": 1}, three.trade, 0)
        self.assert_refused(three, Lacking, {"good": 1}, three.trade, 1)
        self.assert_refused(three, Lacking, {"good": 0}, three.trade, 0, back=True, times=2)

    def test_lacking_ahead_of_too_much(self):
        desk = Desk(market_of("10=13 01=31"), Bag((1, 6)))
        self.assert_refused(desk, TooMuch, {"good": 1}, desk.trade, 0)
        desk = Desk(market_of("10=03"), Bag((3, 6)))
        self.assert_refused(desk, Lacking, {"good": 0}, desk.trade, 0, times=4)
        self.assert_refused(desk, TooMuch, {"good": 1}, desk.trade, 0, times=3)

    def test_too_much_only_in_the_end(self):
        desk = Desk(market_of("10=03 00=11 20=22"), Bag((0, 6)))
        self.assert_refused(desk, TooMuch, {"good": 1}, desk.trade, 1)
        desk = Desk(market_of("11=30"), Bag((2, 5)))
        self.assertEqual(desk.trade(0, times=2), 1)
        self.assert_state(desk, (6, 3), (0, 0), 1)
        self.assert_refused(desk, TooMuch, {"good": 0}, desk.trade, 0)
        desk = Desk(market_of("00=22"), Bag((4, 0)))
        self.assertEqual(desk.trade(0), 1)
        self.assert_refused(desk, TooMuch, {"good": 0}, desk.trade, 0)

    def test_where_nothing_changes(self):
        desk = Desk(market_of("22=22 00=00"), Bag((3, 3)))
        self.assertEqual([desk.trade(0, times=9), desk.trade(1), desk.trade(1, back=True)], [1, 2, 3])
        self.assert_state(desk, (3, 3), (0, 0), 3)
        desk = Desk(market_of("30=30"), Bag((2, 6)))
        self.assert_refused(desk, Lacking, {"good": 0}, desk.trade, 0)


class LoanTest(DeskCase):
    def test_borrow_and_pay(self):
        desk = Desk(W, Bag((1, 0)))
        loan = Bag((2, 1))
        self.assertEqual(desk.borrow(loan), 1)
        self.assert_state(desk, (3, 1), (2, 1), 1)
        self.assertEqual(desk.pay(bag=Bag((1, 1))), 2)
        self.assert_state(desk, (2, 0), (1, 0), 2)
        self.assertEqual(desk.pay(Bag((1, 0))), 3)
        self.assert_state(desk, (1, 0), (0, 0), 3)
        self.assertEqual(desk.borrow(bag=Bag((0, 0))), 4)
        self.assertEqual(desk.pay(Bag((0, 0))), 5)
        self.assert_state(desk, (1, 0), (0, 0), 5)
        self.assertEqual(loan.amounts, (2, 1))

    def test_signs(self):
        desk = same = Desk(W, Bag((1, 0)))
        desk += Bag((0, 2))
        self.assertIs(desk, same)
        self.assert_state(same, (1, 2), (0, 2), 1)
        desk -= Bag((0, 1))
        self.assertIs(desk, same)
        self.assert_state(same, (1, 1), (0, 1), 2)

    def test_bad_bags(self):
        for desk in (Desk(W, Bag((6, 6))), CappedDesk(W, Bag((6, 6)), 0)):
            for value in NO_BAGS:
                for call in (desk.borrow, desk.pay, desk.loans, desk.__iadd__, desk.__isub__):
                    with self.assertRaises(BadBag):
                        call(value)
                with self.assertRaises(BadBag):
                    desk += value
                with self.assertRaises(BadBag):
                    desk -= value
            self.assert_state(desk, (6, 6), (0, 0), 0)

    def test_too_much_borrowed(self):
        desk = Desk(W, Bag((2, 3)))
        self.assert_refused(desk, TooMuch, {"good": 0}, desk.borrow, Bag((5, 4)))
        self.assert_refused(desk, TooMuch, {"good": 1}, desk.borrow, Bag((4, 4)))
        self.assertEqual(desk.borrow(Bag((4, 3))), 1)
        # Here more of the first good is owed than is there.
        other = Desk(market_of("10=00"), Bag((0, 6)))
        other.borrow(Bag((5, 0)))
        other.trade(0, times=5)
        self.assert_state(other, (0, 6), (5, 0), 2)
        self.assert_refused(other, TooMuch, {"good": 0}, other.borrow, Bag((2, 0)))
        self.assert_refused(other, TooMuch, {"good": 0}, other.borrow, Bag((2, 1)))
        self.assert_refused(other, TooMuch, {"good": 1}, other.borrow, Bag((1, 1)))
        self.assertEqual(other.borrow(Bag((1, 0))), 3)

    def test_not_owed_ahead_of_lacking(self):
        desk = Desk(market_of("10=00 01=00"), Bag((0, 0)))
        desk += Bag((2, 2))
        desk.trade(0, times=2)
        self.assert_refused(desk, NotOwed, {"good": 1}, desk.pay, Bag((1, 3)))
        self.assert_refused(desk, NotOwed, {"good": 0}, desk.pay, Bag((3, 3)))
        self.assert_refused(desk, Lacking, {"good": 0}, desk.pay, Bag((1, 1)))
        desk.trade(1, times=1)
        self.assert_refused(desk, Lacking, {"good": 1}, desk.pay, Bag((0, 2)))
        self.assertEqual(desk.pay(Bag((0, 1))), 4)
        self.assert_state(desk, (0, 0), (2, 1), 4)

    def test_over_cap(self):
        desk = CappedDesk(W, Bag((6, 0)), 2)
        self.assert_refused(desk, OverCap, {}, desk.borrow, Bag((3, 0)))
        self.assert_refused(desk, OverCap, {}, desk.__iadd__, Bag((2, 1)))
        self.assert_refused(desk, TooMuch, {"good": 0}, desk.borrow, Bag((1, 1)))
        self.assertEqual(desk.borrow(Bag((0, 2))), 1)
        self.assert_refused(desk, OverCap, {}, desk.borrow, Bag((0, 1)))
        self.assertEqual(desk.borrow(Bag((0, 0))), 2)
        self.assertEqual(desk.pay(Bag((0, 1))), 3)
        desk += Bag((0, 1))
        self.assert_state(desk, (6, 2), (0, 2), 4)
        with self.assertRaises(OverCap):
            desk += Bag((0, 1))
        none = CappedDesk(W, Bag((0, 0)), 0)
        self.assertEqual(none.borrow(Bag((0, 0))), 1)
        self.assert_refused(none, OverCap, {}, none.borrow, Bag((7, 0)))


class UndoTest(DeskCase):
    def test_takes_back_the_last_deed(self):
        desk = Desk(W, Bag((2, 0)))
        states = [((2, 0), (0, 0))]
        for deed in (lambda: desk.trade(0), lambda: desk.borrow(Bag((1, 2))), lambda: desk.pay(Bag((0, 1)))):
            deed()
            states.append((desk.stock.amounts, desk.debt.amounts))
        for version in (2, 1, 0):
            self.assertIsNone(desk.undo())
            self.assert_state(desk, *states[version], version)
        self.assert_refused(desk, NothingToUndo, {}, desk.undo)
        self.assertEqual(desk.trade(0), 1)

    def test_nothing_to_undo_behind_a_refused_deed(self):
        desk = Desk(W, Bag((0, 0)))
        self.assert_refused(desk, Lacking, {"good": 0}, desk.trade, 0)
        self.assert_refused(desk, NothingToUndo, {}, desk.undo)


class AttemptTest(DeskCase):
    def test_result(self):
        desk = Desk(W, Bag((2, 0)))
        self.assertEqual(desk.attempt(lambda d: (d.trade(0), d.trade(0, back=True), "done")), (1, 2, "done"))
        self.assertIs(desk.attempt(lambda d: d), desk)
        self.assertIsNone(desk.attempt(work=lambda d: None))
        self.assert_state(desk, (2, 0), (0, 0), 2)

    def test_deeds_are_taken_back(self):
        desk = Desk(W, Bag((2, 0)))
        desk.borrow(Bag((0, 1)))

        def work(d):
            d.trade(0)
            d += Bag((1, 1))
            d.pay(Bag((0, 5)))

        with self.assertRaises(NotOwed) as caught:
            desk.attempt(work)
        self.assertEqual(caught.exception.good, 1)
        self.assert_state(desk, (2, 1), (0, 1), 1)
        desk.undo()
        self.assert_state(desk, (2, 0), (0, 0), 0)

    def test_what_was_undone_stands_again(self):
        desk = Desk(W, Bag((2, 0)))
        desk.borrow(Bag((0, 1)))
        desk.trade(0)

        def work(d):
            d.undo()
            d.undo()
            d.borrow(Bag((3, 3)))
            d.undo()
            d.undo()

        self.assertRaises(NothingToUndo, desk.attempt, work)
        self.assert_state(desk, (1, 2), (0, 1), 2)
        desk.undo()
        self.assert_state(desk, (2, 1), (0, 1), 1)
        desk.undo()
        self.assert_state(desk, (2, 0), (0, 0), 0)

    def test_the_error_goes_on(self):
        desk = Desk(W, Bag((2, 0)))

        class Own(MarketError):
            pass

        for error in (MarketError(), BadBag(), Own(), BadMarket((None, "room"))):
            def work(d):
                d.trade(0)
                raise error

            with self.assertRaises(MarketError) as caught:
                desk.attempt(work)
            self.assertIs(caught.exception, error)
            self.assert_state(desk, (2, 0), (0, 0), 0)

    def test_other_errors_take_nothing_back(self):
        for error in (NoTrade(7), ValueError(), KeyError(1), Refused(None)):
            desk = Desk(W, Bag((2, 0)))

            def work(d):
                d.trade(0)
                raise error

            with self.assertRaises(type(error)) as caught:
                desk.attempt(work)
            self.assertIs(caught.exception, error)
            self.assert_state(desk, (1, 1), (0, 0), 1)

    def test_errors_that_work_catches(self):
        desk = Desk(W, Bag((2, 0)))

        def work(d):
            d.trade(0)
            try:
                d.trade(0, times=9)
            except Lacking:
                return d.borrow(Bag((1, 0)))

        self.assertEqual(desk.attempt(work), 2)
        self.assert_state(desk, (2, 1), (1, 0), 2)

    def test_nested(self):
        desk = Desk(W, Bag((2, 0)))

        def inner(d):
            d.undo()
            d.borrow(Bag((1, 1)))
            d.pay(Bag((2, 0)))

        def outer(d):
            d.trade(0)
            try:
                d.attempt(inner)
            except NotOwed:
                d.borrow(Bag((0, 1)))
            return str(d)

        self.assertEqual(desk.attempt(outer), "1 2 owes 0 1")
        self.assert_state(desk, (1, 2), (0, 1), 2)

        def all_fails(d):
            d.undo()
            d.attempt(lambda e: e.borrow(Bag((2, 2))))
            d.attempt(inner)

        self.assertRaises(NotOwed, desk.attempt, all_fails)
        self.assert_state(desk, (1, 2), (0, 1), 2)
        desk.undo()
        self.assert_state(desk, (1, 1), (0, 0), 1)


class LoansTest(DeskCase):
    def assert_loans(self, desk, goal):
        before = (desk.stock.amounts, desk.debt.amounts, desk.version)
        found = desk.loans(goal)
        self.assert_state(desk, *before)
        self.assertIs(type(found), tuple)
        self.assertEqual({type(bag) for bag in found} | {Bag}, {Bag})
        amounts = [bag.amounts for bag in found]
        self.assertEqual(amounts, sorted(amounts))
        wanted = added(goal.amounts, desk.debt.amounts)
        for bag in itertools.product(range(4), repeat=len(goal)):
            enough = even(desk.market, added(desk.stock.amounts, bag), added(wanted, bag))
            self.assertEqual(enough, any(holds(bag, least) for least in amounts), (desk.market, str(desk), bag))
        self.assertEqual(tuple(amounts), helpers(desk.market, desk.stock.amounts, wanted))
        return found

    def test_random_desks(self):
        chance = Random(40)
        some = 0
        for _ in range(60):
            market = small_market(chance)
            desk = Desk(market, Bag(tuple(chance.randint(0, 4) for _ in range(market[0]))))
            desk.borrow(Bag(tuple(chance.randint(0, 2) for _ in range(market[0]))))
            for _ in range(3):
                told(desk.trade, chance.randint(0, 2), back=chance.random() < 0.5)
            some += len(self.assert_loans(desk, Bag(tuple(chance.randint(0, 6) for _ in range(market[0]))))) > 0
        self.assertGreater(some, 20)

    def test_borrowed_and_paid_back(self):
        for start, goal in (((1, 0), (0, 1)), ((2, 1), (0, 3)), ((0, 1), (1, 0)), ((3, 0), (3, 0))):
            for loan in Desk(W, Bag(start)).loans(Bag(goal)):
                desk = Desk(W, Bag(start))
                desk.borrow(loan)
                for k, back in shortest(W, desk.stock.amounts, added(goal, loan.amounts), 6):
                    desk.trade(k, back=back)
                desk.pay(loan)
                self.assertEqual((desk.stock, desk.settled), (Bag(goal), True))

    def test_edges(self):
        desk = Desk(W, Bag((6, 6)))
        self.assertEqual(desk.loans(Bag((6, 6))), (Bag((0, 0)),))
        self.assertEqual(desk.loans(goal=Bag((0, 6))), ())
        self.assert_refused(desk, TooMuch, {"good": 0}, desk.loans, Bag((7, 7)))
        self.assert_refused(desk, TooMuch, {"good": 1}, desk.loans, Bag((6, 7)))
        owing = Desk(market_of("10=00"), Bag((0, 6)))
        owing.borrow(Bag((6, 0)))
        owing.trade(0, times=6)
        self.assertEqual(self.assert_loans(owing, Bag((6, 6))), (Bag((0, 0)),))
        self.assertEqual(self.assert_loans(owing, Bag((6, 5))), ())

    def test_what_is_owed_must_be_there_too(self):
        desk = Desk(W, Bag((0, 0)))
        desk.borrow(Bag((1, 0)))
        self.assertEqual(self.assert_loans(desk, Bag((0, 0))), (Bag((0, 0)),))
        self.assertEqual(self.assert_loans(desk, Bag((1, 0))), ())


class EqualTest(DeskCase):
    def test_same_market_stock_and_debt(self):
        one, other, capped = Desk(W, Bag((2, 0))), Desk(W, Bag((2, 0))), CappedDesk(W, Bag((2, 0)), 4)
        for x, y in itertools.product((one, other, capped, CappedDesk(W, Bag((2, 0)), 9)), repeat=2):
            self.assertIs(x == y, True)
            self.assertIs(x != y, False)
        one.trade(0)
        one.trade(0, back=True)
        self.assertIs(one == other, True)
        one.borrow(Bag((0, 1)))
        self.assertIs(one == other, False)
        self.assertIs(one != capped, True)
        self.assertIs(capped == one, False)
        # The same stock, but nothing is owed.
        self.assertIs(one == Desk(W, Bag((2, 1))), False)
        # Nothing is owed at either, but the stocks are unlike.
        self.assertIs(Desk(W, Bag((1, 1))) == other, False)
        self.assertIs(Desk(W, Bag((1, 1))) != other, True)
        capped += Bag((0, 1))
        self.assertIs(one == capped, True)
        self.assertIs(Desk((2, ()), Bag((2, 0))) == other, False)
        self.assertIs(Desk((2, W[1][::-1]), Bag((2, 0))) == other, False)

    def test_other_values(self):
        desk = Desk(W, Bag((1, 0)))
        for value in ODD_VALUES + (Bag((1, 0)), (1, 0), W, "1 0 owes 0 0"):
            self.assertIs(desk == value, False)
            self.assertIs(desk != value, True)


class RowsOfDeedsTest(DeskCase):
    def random_bag(self, chance, goods):
        """A bag for as many goods, mostly; and the amounts, None if it is no such Bag."""
        if chance.random() < 0.08:
            return chance.choice([None, (0,) * goods, Bag((1,) * (goods + 1)), "1", [0]]), None
        amounts = tuple(chance.choice((0, 0, 1, 1, 2, 4)) for _ in range(goods))
        return Bag(amounts), amounts

    def deed(self, chance, desk, model):
        """Does the same at the desk and in the model, and compares what they tell."""
        kind = chance.choice(("trade", "trade", "borrow", "pay", "undo"))
        if kind == "trade":
            k, back = chance.choice((0, 0, 1, 1, 2, 3, -1, None, True)), chance.random() < 0.5
            times = chance.choice((1, 1, 1, 2, 3, 9, 0, 10, False, None))
            expected = told(model.trade, k, back, times)
            found = told(desk.trade, k, back=back, times=times)
        elif kind == "undo":
            expected, found = told(model.undo), told(desk.undo)
        else:
            bag, amounts = self.random_bag(chance, model.market[0])
            expected, found = told(getattr(model, kind), amounts), told(getattr(desk, kind), bag)
        self.assertEqual((type(found), found), (type(expected), expected))
        self.assert_state(desk, *model.rows[-1], len(model.rows) - 1)
        return found[0] if isinstance(found, tuple) else "done"

    def attempt(self, chance, desk, model, depth):
        """An attempt with deeds, undos and further attempts inside, which fails or not."""
        before = copy.deepcopy(model.rows)
        fails = chance.random() < 0.5

        def work(d):
            self.assertIs(d, desk)
            for _ in range(chance.randint(0, 5)):
                if depth < 3 and chance.random() < 0.25:
                    self.attempt(chance, d, model, depth + 1)
                else:
                    self.deed(chance, d, model)
            if fails:
                raise OverCap()
            return depth

        if fails:
            self.assertRaises(OverCap, desk.attempt, work)
            model.rows = before
        else:
            self.assertEqual(desk.attempt(work), depth)
        self.assert_state(desk, *model.rows[-1], len(model.rows) - 1)

    def test_as_the_model(self):
        chance = Random(41)
        seen = {}
        for _ in range(250):
            market = small_market(chance)
            amounts = tuple(chance.randint(0, 6) for _ in range(market[0]))
            cap = chance.choice((None, None, 0, 2, 5))
            desk = Desk(market, Bag(amounts)) if cap is None else CappedDesk(market, Bag(amounts), cap)
            model = Model(market, amounts, cap)
            for _ in range(25):
                if chance.random() < 0.15:
                    self.attempt(chance, desk, model, 0)
                else:
                    word = self.deed(chance, desk, model)
                    seen[word] = seen.get(word, 0) + 1
            while len(model.rows) > 1:
                self.assertEqual(told(desk.undo), told(model.undo))
                self.assert_state(desk, *model.rows[-1], len(model.rows) - 1)
            self.assertEqual(desk, Desk(market, Bag(amounts)))
        kinds = {"done", NoTrade, BadTimes, Lacking, TooMuch, BadBag, NotOwed, NothingToUndo, OverCap}
        self.assertEqual(set(seen), kinds)
        self.assertGreater(min(seen.values()), 20)

    def test_equal_rows_of_deeds(self):
        market, start, loan = copy.deepcopy(W), Bag((3, 1)), Bag((1, 2))

        def work(d):
            d.undo()
            d.pay(Bag((0, 1)))
            d.pay(loan)

        def row(desk):
            return [
                told(desk.borrow, loan), told(desk.trade, 0, times=2), told(desk.trade, 5), told(desk.attempt, work),
                told(desk.pay, loan), [bag.amounts for bag in desk.loans(start)], told(desk.undo), str(desk),
            ]

        for make in (lambda: Desk(market, start), lambda: CappedDesk(market, start, 3)):
            one, other = make(), make()
            expected = row(one)
            self.assertEqual(row(other), expected)
            self.assertEqual(one, other)
            self.assertEqual(one.loans(start), other.loans(start))
        self.assertEqual((market, start.amounts, loan.amounts), (W, (3, 1), (1, 2)))

    def test_desks_are_apart(self):
        stock = Bag((2, 0))
        one, other = Desk(W, stock), Desk(W, stock)
        one.trade(0)
        one.borrow(Bag((1, 1)))
        self.assert_state(other, (2, 0), (0, 0), 0)
        kept = one.stock
        one.undo()
        self.assertEqual(kept.amounts, (2, 2))
        self.assertEqual(stock.amounts, (2, 0))


if __name__ == "__main__":
    unittest.main()
