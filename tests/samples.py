"""Markets and values that several tests use."""

from random import Random

W = (2, (((2, 0), (1, 1)), ((0, 2), (1, 1))))

DEEP = ()
for depth in range(11):
    DEEP = (DEEP, [depth])

# What an argument that may be any value is, apart from what is right for it.
ODD_VALUES = (
    None, True, False, 0, 1, 2, -1, 10 ** 29, -(10 ** 29), "", "ab", "goods 2\n2 0 = 1 1", "x" * 3000,
    [], [1, 2], {}, {0: 1, 1: 2}, {"goods": 2, "trades": ()}, DEEP, [DEEP], {"a": DEEP}, tuple(range(3000)),
)


def random_bag(chance, goods):
    """A bag that a trade of a market may hold."""
    while True:
        bag = tuple(chance.randint(0, 3) for _ in range(goods))
        if sum(bag) <= 4:
            return bag


def random_markets(many):
    """The same markets in every run, of all numbers of goods and trades."""
    chance = Random(4)
    markets = []
    for _ in range(many):
        goods = chance.randint(1, 4)
        trades = [(random_bag(chance, goods), random_bag(chance, goods)) for _ in range(chance.randint(0, 4))]
        markets.append((goods, tuple(trades)))
    return markets


def random_stocks(market, many):
    """The same stocks of the market in every run."""
    chance = Random(repr(market))
    return [tuple(chance.randint(0, 5) for _ in range(market[0])) for _ in range(many)]
