"""Markets, and the steps by which stocks are turned into others."""

from lentbeside.bounds import MAX_AMOUNT, MAX_GOODS, MAX_TOTAL, MAX_TRADES
from lentbeside.errors import BadStep


def is_whole(value):
    """Whether value is an integer; Python's own rule would let bools pass."""
    return isinstance(value, int) and not isinstance(value, bool)


def is_bag(goods, value):
    """Whether value is a bag for so many goods."""
    if not isinstance(value, tuple) or len(value) != goods:
        return False
    return all([is_whole(amount) and amount >= 0 for amount in value])


def is_pair(value):
    """Whether value is a tuple of two items."""
    return isinstance(value, tuple) and len(value) == 2


def trade_fault(goods, value):
    """The word for what keeps value from being a trade of a market, or None."""
    if not is_pair(value) or not all([is_bag(goods, bag) for bag in value]):
        return "trade"
    if any([max(bag) > MAX_AMOUNT for bag in value]):
        return "amount"
    if any([sum(bag) > MAX_TOTAL for bag in value]):
        return "total"
    return None


def market_error(value):
    """None for a market, otherwise the pair (place, word) of the first fault."""
    if not is_pair(value):
        return (None, "market")
    goods, trades = value
    if not is_whole(goods) or not 1 <= goods <= MAX_GOODS:
        return (None, "goods")
    if not isinstance(trades, tuple):
        return (None, "trades")
    if len(trades) > MAX_TRADES:
        return (None, "many")
    for k, trade in enumerate(trades):
        word = trade_fault(goods, trade)
        if word is not None:
            return (k, word)
    return None


def holds(bag, other):
    """Whether bag has at least as many of each good as other."""
    for many, few in zip(bag, other):
        if many < few:
            return False
    return True


def exchange(stock, taken, added):
    """The stock without the bag taken and with the bag added; None if it does not hold taken."""
    if not holds(stock, taken):
        return None
    return tuple([amount - less + more for amount, less, more in zip(stock, taken, added)])


def is_step(market, value):
    """Whether value is a step of the market."""
    if not is_pair(value):
        return False
    k, back = value
    return is_whole(k) and 0 <= k < len(market[1]) and isinstance(back, bool)


def after_step(market, stock, step):
    """The stock to which the step leads; None if it cannot be done."""
    k, back = step
    give, get = market[1][k]
    return exchange(stock, get, give) if back else exchange(stock, give, get)


def walk(market, stock, steps):
    """The tuple of all stocks on the way."""
    if not isinstance(steps, tuple):
        raise BadStep(-1)
    way = [stock]
    for index, step in enumerate(steps):
        after = after_step(market, way[-1], step) if is_step(market, step) else None
        if after is None:
            raise BadStep(index)
        way.append(after)
    return tuple(way)


def ways_on(market, stock):
    """The steps that can be done, ascending, each with the stock to which it leads."""
    steps = [(k, back) for k in range(len(market[1])) for back in (False, True)]
    ways = [(step, after_step(market, stock, step)) for step in steps]
    return [(step, after) for step, after in ways if after is not None]


def distances(market, stock, steps):
    """The least numbers of steps to all stocks so near, as a dict in ascending order."""
    known = {stock: 0}
    edge = [stock]
    for distance in range(1, steps + 1):
        reached = [way[1] for near in edge for way in ways_on(market, near)]
        edge = sorted({far for far in reached if far not in known})
        for other in edge:
            known[other] = distance
    return known


def each_near(market, stock, steps):
    """Yields the pair (distance, other) for each stock to which at most so many steps lead."""
    for other, distance in distances(market, stock, steps).items():
        yield (distance, other)


def shortest(market, one, other, most):
    """The least one of the shortest tuples of steps from one to other, None if all are longer than most."""
    # Steps can be done backwards, so these are the distances to other as well as from it.
    ahead = distances(market, other, most)
    if one not in ahead:
        return None
    steps = []
    stock = one
    while stock != other:
        nearer = [way for way in ways_on(market, stock) if ahead.get(way[1]) == ahead[stock] - 1]
        # The least step at each place makes the least tuple, since all that are left are as long.
        step, stock = nearer[0]
        steps.append(step)
    return tuple(steps)
