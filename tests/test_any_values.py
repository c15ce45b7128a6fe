"""Objects of the package, too, may stand where any value may."""

import unittest

from lentbeside.bags import Bag
from lentbeside.desks import CappedDesk, Desk
from lentbeside.errors import BadStep, BadText
from lentbeside.lists import list_error
from lentbeside.markets import market_error, walk
from lentbeside.papers import chain_paper, is_chain, is_parting, parting_paper
from lentbeside.texts import read_market
from samples import W, all_paths, with_part

OBJECTS = (Bag((2, 0)), Bag((0, 0)), Bag((1,)), Desk(W, Bag((1, 0))), CappedDesk(W, Bag((1, 0)), 5))


def each_with_an_object(value):
    """The value with an object in the place of each of its parts."""
    for path in all_paths(value):
        for part in OBJECTS:
            yield with_part(value, path, part)


class AnyValuesTest(unittest.TestCase):
    def test_market_error(self):
        for value in each_with_an_object(W):
            self.assertIn(market_error(value), (
                (None, "market"), (None, "goods"), (None, "trades"), (0, "trade"), (1, "trade")))

    def test_walk(self):
        for value in each_with_an_object(((1, False), (0, True))):
            with self.assertRaises(BadStep) as caught:
                walk(W, (1, 2), value)
            self.assertIn(caught.exception.index, (-1, 0, 1))

    def test_read_market(self):
        for value in OBJECTS:
            with self.assertRaises(BadText) as caught:
                read_market(value)
            self.assertIsNone(caught.exception.line)

    def test_list_error(self):
        for value in each_with_an_object((((1, 1), (2, 0)), ((0, 2), (2, 0)))):
            self.assertIn(list_error(2, value), ((None, "list"), (0, "rule"), (1, "rule")))

    def test_papers(self):
        for value in each_with_an_object(chain_paper(W, (1, 3), (0, 4))):
            self.assertIs(is_chain(W, (1, 3), (0, 4), value), False)
        for value in each_with_an_object(parting_paper(W, (1, 0), (0, 1))):
            self.assertIs(is_parting(W, (1, 0), (0, 1), value), False)


if __name__ == "__main__":
    unittest.main()
