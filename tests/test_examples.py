"""The examples of the document under [9] to [14], as they stand there."""

import doctest
import unittest

from lentbeside.bags import Bag
from lentbeside.counts import agree, net
from lentbeside.desks import Desk
from lentbeside.helpers import for_all, helpers, helps_all, lends, with_note
from samples import W

NAMES = {
    "W": W, "agree": agree, "net": net, "helpers": helpers, "lends": lends, "with_note": with_note,
    "for_all": for_all, "helps_all": helps_all, "Bag": Bag, "Desk": Desk,
}

EXAMPLES = {
    "[9]": """
    >>> [agree(W, (1, 0), (0, 1)), agree(W, (1, 0), (2, 0)), net(W, (0, 2), (1, 1)) is None, agree((1, (((3,), (1,)),)), (0,), (4,))]
    [True, False, False, True]
""",
    "[11]": """
    >>> [helpers(W, (1, 0), (0, 1)), lends(W, (1, 0), (0, 1)), helpers(W, (1, 0), (2, 0)), lends(W, (1, 1), (2, 0)), with_note(W, (1,))]
    [((0, 1), (1, 0)), ((0,), (1,)), (), ((),), (3, (((2, 0, 0), (1, 1, 0)), ((0, 2, 0), (1, 1, 0)), ((0, 1, 1), (0, 0, 0))))]
""",
    "[12]": """
    >>> [for_all(W), helps_all(W, (0, 0)), helps_all(W, (0, 3)), for_all((1, (((3,), (1,)),))), for_all((2, ()))]
    [((0, 1), (1, 0)), False, True, ((1,),), ((0, 0),)]
""",
    "[13]": """
    >>> x, y = Bag((2, 0, 1)), Bag((1, 3, 0))
    >>> [str(x + y), (x | y).amounts, (x & y).amounts, x in y, (x * 2)[0], list(y), Bag.of(3, 1) in y, bool(x - x)]
    ['3 3 1', (2, 3, 1), (1, 0, 0), False, 4, [1, 3, 0], True, False]
""",
    "[14]": """
    >>> d = Desk(W, Bag((1, 0)))
    >>> [d.loans(Bag((0, 1))) == (Bag((0, 1)), Bag((1, 0))), d.borrow(Bag((0, 1))), d.trade(1, back=True), str(d), d.pay(Bag((0, 1))), d.settled, str(d), d.undo(), len(d)]
    [True, 1, 2, '0 2 owes 0 1', 3, True, '0 1 owes 0 0', None, 2]
""",
}


class ExamplesTest(unittest.TestCase):
    def test_each(self):
        for point, text in EXAMPLES.items():
            with self.subTest(point):
                test = doctest.DocTestParser().get_doctest(text, dict(NAMES), point, None, 0)
                result = doctest.DocTestRunner().run(test)
                self.assertEqual(result.failed, 0)
                self.assertGreater(result.attempted, 0)


if __name__ == "__main__":
    unittest.main()
