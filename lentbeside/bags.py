"""Bags as values."""

from lentbeside.errors import BadBag, BadTimes, Lacking
from lentbeside.lists import joined
from lentbeside.markets import holds, is_bag, is_whole


def first_lacking(bag, other):
    """The first good of which bag has less than other; None if there is none."""
    for good, (many, wanted) in enumerate(zip(bag, other)):
        if many < wanted:
            return good
    return None


class Bag:
    """A bag that never changes."""

    # Written out, because a value of a class must be; it is MAX_GOODS.
    LIMIT = 4

    def __init__(self, amounts):
        if not isinstance(amounts, tuple) or not 1 <= len(amounts) <= Bag.LIMIT:
            raise BadBag()
        if not is_bag(len(amounts), amounts):
            raise BadBag()
        self.held = amounts

    @classmethod
    def of(cls, goods, good, many=1):
        """The Bag for so many goods that has so many of one good and nothing else."""
        return cls(tuple([many if k == good else 0 for k in range(goods)]))

    @property
    def amounts(self):
        """The tuple of the amounts."""
        return self.held

    def is_like(self, other):
        """Whether other, any value, is a Bag for as many goods."""
        return isinstance(other, Bag) and len(other.held) == len(self.held)

    def amounts_of(self, other):
        """The amounts of other, any value, which must be a Bag for as many goods."""
        if not self.is_like(other):
            raise BadBag()
        return other.held

    def __getitem__(self, at):
        return self.held[at]

    def __len__(self):
        return len(self.held)

    def __bool__(self):
        return any([amount > 0 for amount in self.held])

    def __iter__(self):
        return iter(self.held)

    def __str__(self):
        return " ".join([str(amount) for amount in self.held])

    def __add__(self, other):
        more = self.amounts_of(other)
        return Bag(tuple([amount + many for amount, many in zip(self.held, more)]))

    def __sub__(self, other):
        less = self.amounts_of(other)
        good = first_lacking(self.held, less)
        if good is not None:
            raise Lacking(good)
        return Bag(tuple([amount - many for amount, many in zip(self.held, less)]))

    def __or__(self, other):
        return Bag(joined(self.held, self.amounts_of(other)))

    def __and__(self, other):
        common = self.amounts_of(other)
        return Bag(tuple([min(amount, many) for amount, many in zip(self.held, common)]))

    def __mul__(self, other):
        if not is_whole(other) or other < 0:
            raise BadTimes(other)
        return Bag(tuple([amount * other for amount in self.held]))

    def __contains__(self, x):
        return self.is_like(x) and holds(self.held, x.held)

    def __eq__(self, other):
        return isinstance(other, Bag) and self.held == other.held
