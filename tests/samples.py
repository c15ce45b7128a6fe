"""Markets and values that several tests use."""

from random import Random

W = (2, (((2, 0), (1, 1)), ((0, 2), (1, 1))))

DEEP = ()
for depth in range(11):
    DEEP = (DEEP, [depth])

# What an argument that may be any value is, apart from what is right for it.
ODD_VALUES = (
    None, True, False, 0, 1, 2, -1, 10 ** 29, -(10 ** 29), "", "ab", "goods 2\n2 0 = 1 1", "x" * 3000,
    [], [1, 2], {}, {0: 1, 1: 2}, {"goods": 2, "trades": ()}, DEEP, [DEEP], {"a": DEEP}, tuple(range(3000)),
)


def random_bag(chance, goods):
    """A bag that a trade of a market may hold."""
    while True:
        bag = tuple(chance.randint(0, 3) for _ in range(goods))
        if sum(bag) <= 4:
            return bag


def random_markets(many):
    """The same markets in every run, of all numbers of goods and trades."""
    chance = Random(4)
    markets = []
    for _ in range(many):
        goods = chance.randint(1, 4)
        trades = [(random_bag(chance, goods), random_bag(chance, goods)) for _ in range(chance.randint(0, 4))]
        markets.append((goods, tuple(trades)))
    return markets


def random_stocks(market, many):
    """The same stocks of the market in every run."""
    chance = Random(repr(market))
    return [tuple(chance.randint(0, 5) for _ in range(market[0])) for _ in range(many)]


def market_of(words):
    """The market with trades such as "20=11 02=11"."""
    trades = [tuple(tuple(map(int, bag)) for bag in word.split("=")) for word in words.split()]
    return (len(trades[0][0]), tuple(trades))


# Markets whose lists are long, have large amounts, or are hard to find.
LONG_MARKETS = (
    market_of("0013=0130 2110=3000 1012=0202 0031=0310"),
    market_of("0300=0031 0022=2011 0130=1003 3001=0202"),
    market_of("0031=3010 0010=2200 1200=1200 0301=1003"),
    market_of("0013=0300 0103=0002 3000=3100 1102=0130"),
    market_of("3001=0202 1300=0030 0003=0310 0103=0000"),
    market_of("0001=3100 0110=0020 0300=1110 0013=0003"),
    market_of("2020=1300 3100=0103 2002=0021"),
    market_of("0301=0210 0103=2000"),
    market_of("012=202 130=210 210=103 301=020"),
)


def holds_list(value):
    """Whether a list stands anywhere in the value."""
    if isinstance(value, (tuple, dict)):
        return any(holds_list(part) for part in value)
    return isinstance(value, list)


def with_part(value, path, part):
    """The nested tuple with another part at the end of the path of indexes."""
    if not path:
        return part
    at = path[0]
    return value[:at] + (with_part(value[at], path[1:], part),) + value[at + 1:]


def all_paths(value):
    """The paths of indexes to all parts of a nested tuple, itself included."""
    paths = [()]
    if isinstance(value, tuple):
        for at, part in enumerate(value):
            paths += [(at,) + path for path in all_paths(part)]
    return paths
