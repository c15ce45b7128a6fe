"""Desks at which somebody trades, borrows and pays back."""

from lentbeside.bags import Bag, first_lacking
from lentbeside.bounds import MAX_DESK, MAX_LENT, MAX_TIMES
from lentbeside.errors import (
    BadBag, BadMarket, BadTimes, MarketError, NoTrade, NotOwed, NothingToUndo, OverCap, TooMuch,
)
from lentbeside.helpers import helpers
from lentbeside.markets import is_whole, market_error


def desk_error(market):
    """What keeps a value from being the market of a desk; None if nothing does."""
    error = market_error(market)
    if error is None and (market[0] > MAX_LENT or len(market[1]) > MAX_LENT):
        return (None, "room")
    return error


def check_kind(bag, value):
    """Raises BadBag if value, any value, is not a Bag for as many goods as bag."""
    if not bag.is_like(value):
        raise BadBag()


def check_room(bag):
    """Raises TooMuch with the first good of which the bag has more than a desk has room for."""
    good = first_lacking((MAX_DESK,) * len(bag), bag.amounts)
    if good is not None:
        raise TooMuch(good)


class Desk:
    """Somebody trades in a market, borrows and pays back."""

    def __init__(self, market, stock):
        error = desk_error(market)
        if error is not None:
            raise BadMarket(error)
        nothing = Bag((0,) * market[0])
        check_kind(nothing, stock)
        check_room(stock)
        self.place = market
        self.present = stock
        self.owed = nothing
        # The pairs of stock and debt ahead of each deed that stands.
        self.past = []

    @property
    def market(self):
        """The market in which the trades are done."""
        return self.place

    @property
    def stock(self):
        """The Bag of what is there."""
        return self.present

    @property
    def debt(self):
        """The Bag of what is owed."""
        return self.owed

    @property
    def version(self):
        """The number of deeds that stand."""
        return len(self.past)

    @property
    def settled(self):
        """Whether nothing is owed."""
        return sum(self.owed.amounts) == 0

    def balance(self):
        """The text of stock and debt."""
        return f"{self.present} owes {self.owed}"

    def record(self, stock, debt):
        """Does a deed that leads to this stock and debt; returns the new version."""
        self.past.append((self.present, self.owed))
        self.present = stock
        self.owed = debt
        return len(self.past)

    def trade(self, k, *, back=False, times=1):
        """Does the step (k, back) so many times; returns the new version."""
        trades = self.place[1]
        if not is_whole(k) or not 0 <= k < len(trades):
            raise NoTrade(k)
        if not is_whole(times) or not 1 <= times <= MAX_TIMES:
            raise BadTimes(times)
        give, get = [Bag(amounts) for amounts in trades[k]]
        stock = self.present
        for done in range(times):
            # Taking what is not there raises Lacking.
            stock = stock - get + give if back else stock - give + get
        check_room(stock)
        return self.record(stock, self.owed)

    def borrow(self, bag):
        """Adds a Bag to the stock and to the debt; returns the new version."""
        check_kind(self.owed, bag)
        stock = self.present + bag
        debt = self.owed + bag
        check_room(stock | debt)
        return self.record(stock, debt)

    def pay(self, bag):
        """Takes a Bag from the debt and from the stock; returns the new version."""
        check_kind(self.owed, bag)
        good = first_lacking(self.owed.amounts, bag.amounts)
        if good is not None:
            raise NotOwed(good)
        return self.record(self.present - bag, self.owed - bag)

    def undo(self):
        """Takes back the last deed that stands."""
        if len(self.past) == 0:
            raise NothingToUndo()
        self.present, self.owed = self.past.pop()

    def attempt(self, work):
        """Calls work with the desk and returns its result; if a MarketError comes of it, all is as it was."""
        past = list(self.past)
        stock = self.present
        debt = self.owed
        try:
            return work(self)
        except MarketError:
            self.past = past
            self.present = stock
            self.owed = debt
            raise

    def loans(self, goal):
        """The least Bags with which, borrowed too, goal can be left once all debts are paid back."""
        check_kind(self.owed, goal)
        check_room(goal)
        # A loan lies beside the stock, and beside what must be there to pay the debts and leave the goal.
        wanted = goal + self.owed
        return tuple([Bag(amounts) for amounts in helpers(self.place, self.present.amounts, wanted.amounts)])

    def __iadd__(self, other):
        self.borrow(other)
        return self

    def __isub__(self, other):
        self.pay(other)
        return self

    def __len__(self):
        return len(self.past)

    def __str__(self):
        return f"{self.balance()}"

    def __eq__(self, other):
        if not isinstance(other, Desk):
            return False
        return self.place == other.place and self.present == other.present and self.owed == other.owed


class CappedDesk(Desk):
    """A desk at which the total of the debt is never above a cap."""

    def __init__(self, market, stock, cap):
        Desk.__init__(self, market, stock)
        if not is_whole(cap) or cap < 0:
            raise BadTimes(cap)
        self.most = cap

    @property
    def cap(self):
        """The greatest total that may be owed."""
        return self.most

    def borrow(self, bag):
        """Adds a Bag to the stock and to the debt, if the cap allows it; returns the new version."""
        check_kind(self.owed, bag)
        if sum((self.owed + bag).amounts) > self.most:
            raise OverCap()
        return super().borrow(bag)

    def __str__(self):
        return f"{self.balance()}, cap {self.most}"
