"""Markets as texts, and texts as markets."""

from lentbeside.bounds import MAX_AMOUNT, MAX_GOODS, MAX_TOTAL, MAX_TRADES
from lentbeside.errors import BadText


def trade_line(trade):
    """The line for a trade."""
    give, get = [" ".join([str(amount) for amount in bag]) for bag in trade]
    return f"{give} = {get}"


def market_text(market):
    """The text of the market."""
    goods, trades = market
    return "\n".join([f"goods {goods}"] + [trade_line(trade) for trade in trades])


def read_goods(line):
    """The number of goods that the first line tells; None if no market has such a line."""
    for goods in range(1, MAX_GOODS + 1):
        if line == f"goods {goods}":
            return goods
    return None


def read_bag(words):
    """The bag with these amounts; None if no trade of a market has it."""
    # Looked up among the digits: int would also take signs, zeros ahead and other spaces.
    digits = [str(amount) for amount in range(MAX_AMOUNT + 1)]
    if not all([word in digits for word in words]):
        return None
    bag = tuple([int(word) for word in words])
    return bag if sum(bag) <= MAX_TOTAL else None


def read_trade(goods, line):
    """The trade that the line tells; None if no market with so many goods has such a line."""
    words = line.split(" ")
    if len(words) != 2 * goods + 1 or words[goods] != "=":
        return None
    give = read_bag(words[:goods])
    get = read_bag(words[goods + 1:])
    return None if give is None or get is None else (give, get)


def read_market(value):
    """The market whose text value is."""
    if not isinstance(value, str):
        raise BadText(None)
    first, *rest = value.split("\n")
    goods = read_goods(first)
    if goods is None:
        raise BadText(0)
    trades = []
    for index, line in enumerate(rest, start=1):
        trade = read_trade(goods, line) if index <= MAX_TRADES else None
        if trade is None:
            raise BadText(index)
        trades.append(trade)
    return (goods, tuple(trades))
