"""Counts that all trades keep, and net numbers of trades from one stock to another."""


def gains(trade):
    """What the trade adds to a stock, good by good."""
    return [more - less for less, more in zip(trade[0], trade[1])]


def unit_row(size, at):
    """So many numbers, all 0 but the one at this place, which is 1."""
    return [1 if k == at else 0 for k in range(size)]


def swapped(row, one, other):
    """The row with the numbers at two places swapped."""
    places = list(range(len(row)))
    places[one], places[other] = other, one
    return [row[k] for k in places]


def reduced(row, place, by, times):
    """The row with less at one place: so many times what stands at another one."""
    return [many - times * row[by] if k == place else many for k, many in enumerate(row)]


class Grid:
    """Rows of integers that tell which stocks can be led to which, if nothing ever lacks.

    tops has a row for each trade: what it adds of each good, and behind that which sum of trades it stands for.
    lows has a row for each good: how much it counts in each column. At first each row of tops stands for one trade,
    and each column for one good. Rows of tops are added to each other, and so are columns, until the columns of tops
    are 0 but for one number at most, in the row of the same index. All this could be done backwards, so that the sums
    of the trades stay the same.
    """

    def __init__(self, market):
        goods, trades = market
        self.goods = goods
        self.tops = [gains(trade) + unit_row(len(trades), k) for k, trade in enumerate(trades)]
        self.lows = [unit_row(goods, k) for k in range(goods)]

    def least_place(self, at):
        """The place of the number nearest to 0, but not 0, from row and column at on; None if there is none."""
        places = [(i, j) for i in range(at, len(self.tops)) for j in range(at, self.goods)]
        found = [(abs(self.tops[i][j]), i, j) for i, j in places if self.tops[i][j] != 0]
        return min(found)[1:] if len(found) > 0 else None

    def bring(self, at, row, column):
        """Swaps this row and this column with those at the index at."""
        self.tops[at], self.tops[row] = self.tops[row], self.tops[at]
        self.tops = [swapped(top, at, column) for top in self.tops]
        self.lows = [swapped(low, at, column) for low in self.lows]

    def reduce_rows(self, at):
        """Takes the row at from those behind it as often as brings their number in column at next to 0."""
        first = self.tops[at]
        for i in range(at + 1, len(self.tops)):
            times = self.tops[i][at] // first[at]
            self.tops[i] = [many - times * less for many, less in zip(self.tops[i], first)]

    def reduce_columns(self, at):
        """The same for columns."""
        for j in range(at + 1, self.goods):
            times = self.tops[at][j] // self.tops[at][at]
            self.tops = [reduced(top, j, at, times) for top in self.tops]
            self.lows = [reduced(low, j, at, times) for low in self.lows]

    def is_clear(self, at):
        """Whether nothing is left in column at behind row at, nor in row at behind column at."""
        down = [top[at] for top in self.tops[at + 1:]]
        return not any([many != 0 for many in down + self.tops[at][at + 1:self.goods]])

    def finish(self):
        """Brings the rows to the form that the class is for."""
        at = 0
        place = self.least_place(at)
        while place is not None:
            self.bring(at, place[0], place[1])
            self.reduce_rows(at)
            self.reduce_columns(at)
            # What is left over is nearer to 0 than before, so that this ends.
            at += 1 if self.is_clear(at) else 0
            place = self.least_place(at)

    def modulus(self, column):
        """What the sums of the trades have a multiple of in this column."""
        return abs(self.tops[column][column]) if column < len(self.tops) else 0

    def weights(self, column):
        """How much each good counts in this column."""
        return [low[column] for low in self.lows]

    def trades_for(self, column):
        """Which sum of trades adds just the modulus in this column, and nothing in the others."""
        top = self.tops[column]
        return [many if top[column] > 0 else -many for many in top[self.goods:]]


def grid_of(market):
    """The grid of the market in its last form."""
    grid = Grid(market)
    grid.finish()
    return grid


def count_of(weights, modulus):
    """The count with these weights, which are made small where the modulus allows it."""
    return (tuple([weight % modulus if modulus > 0 else weight for weight in weights]), modulus)


def counts(market):
    """Counts that all trades keep, such that two stocks agree exactly if they have the same."""
    grid = grid_of(market)
    moduli = [grid.modulus(column) for column in range(market[0])]
    return tuple([count_of(grid.weights(column), modulus) for column, modulus in enumerate(moduli) if modulus != 1])


def worth(weights, bag):
    """The sum of the amounts times their weights."""
    return sum([weight * amount for weight, amount in zip(weights, bag)])


def net(market, one, other):
    """Net numbers from one stock to the other; None if there are none."""
    grid = grid_of(market)
    change = gains((one, other))
    numbers = [0] * len(market[1])
    for column in range(market[0]):
        wanted = worth(grid.weights(column), change)
        modulus = grid.modulus(column)
        if modulus > 0 and wanted % modulus == 0:
            times = wanted // modulus
            numbers = [number + times * many for number, many in zip(numbers, grid.trades_for(column))]
        elif wanted != 0:
            return None
    return tuple(numbers)


def agree(market, one, other):
    """Whether two stocks agree."""
    return net(market, one, other) is not None
