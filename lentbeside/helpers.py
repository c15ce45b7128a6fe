"""What must lie beside two stocks, or any two that agree, so that one can be turned into the other."""

from lentbeside.even import even, the_list
from lentbeside.lists import fall
from lentbeside.reaches import all_among, greatest, is_part, parts_without, regions_of


def added(one, other):
    """The sum of two bags."""
    return tuple([amount + more for amount, more in zip(one, other)])


def with_note(market, lent):
    """The market with the note for the lent goods."""
    goods, trades = market
    padded = [(give + (0,), get + (0,)) for give, get in trades]
    loan = tuple([1 if good in lent else 0 for good in range(goods)]) + (1,)
    return (goods + 1, (*padded, (loan, (0,) * (goods + 1))))


def lent_rules(market, lent):
    """Rules by which two stocks fall to the same exactly if the lent goods are enough for them."""
    rules = the_list(with_note(market, lent))
    # A stock without notes never comes to have one, since it would not be plainer then.
    return tuple([(left[:-1], right[:-1]) for left, right in rules if left[-1] == 0])


def lent_choices(goods):
    """All ascending tuples of goods that may be lent, each behind those of some of its goods."""
    choices = [()]
    for good in range(goods):
        choices = choices + [choice + (good,) for choice in choices]
    return choices


class Search:
    """The search for all least bags that help each of some pairs of stocks.

    least are those that were found. All other ones lie in the reaches that wait, which have no bag that holds one of
    these. No bag of a closed reach helps each pair. No reach among all these is part of another one.
    """

    def __init__(self, market, pairs):
        self.place = market
        self.pairs = pairs
        self.lists = {}
        self.least = []
        self.waiting = [((0,) * market[0], tuple(range(market[0])))]
        self.closed = []

    def rules_for(self, lent):
        """The rules for the lent goods, found once."""
        if lent not in self.lists:
            self.lists[lent] = lent_rules(self.place, lent)
        return self.lists[lent]

    def has_some(self, bag, lent):
        """Whether the region has bags that help each pair."""
        rules = self.rules_for(lent)
        for one, other in self.pairs:
            if fall(rules, added(one, bag)) != fall(rules, added(other, bag)):
                return False
        # The greater one of two bags in a region is in it too; so there is one for all pairs.
        return True

    def helps_each(self, bag):
        """Whether the bag helps each pair."""
        return self.has_some(bag, ())

    def some_helper(self, reach):
        """A bag of the reach that helps each pair; there must be one."""
        bag, lent = reach
        many = 1
        while not self.helps_each(bag):
            bag = tuple([many if good in lent else amount for good, amount in enumerate(bag)])
            many = many * 2
        return bag

    def with_least(self, bag, good):
        """The bag with as little of the good as it can have and still help each pair."""
        low = 0
        high = bag[good]
        while low < high:
            middle = (low + high) // 2
            if self.helps_each(bag[:good] + (middle,) + bag[good + 1:]):
                high = middle
            else:
                low = middle + 1
        return bag[:good] + (low,) + bag[good + 1:]

    def least_helper(self, reach):
        """A least bag of the reach that helps each pair."""
        bag = self.some_helper(reach)
        for good in range(len(bag)):
            bag = self.with_least(bag, good)
        return bag

    def keep(self, bag, reach):
        """Notes the least bag, which was found in the reach, and goes on with the bags that do not hold it."""
        self.least.append(bag)
        parts = [part for other in [*self.waiting, reach] for part in parts_without(other, bag)]
        self.waiting = [part for part in greatest(parts) if not any([is_part(part, shut) for shut in self.closed])]

    def find_all(self):
        """Searches until no reach waits."""
        while len(self.waiting) > 0:
            reach = self.waiting.pop()
            if self.has_some(reach[0], reach[1]):
                self.keep(self.least_helper(reach), reach)
            else:
                self.closed.append(reach)


def finished_search(market, pairs):
    """The search at its end."""
    search = Search(market, pairs)
    search.find_all()
    return search


def helps(market, one, other, bag):
    """Whether the bag helps the two stocks."""
    return even(market, added(one, bag), added(other, bag))


def helpers(market, one, other):
    """All least helpers of the two stocks."""
    return tuple(sorted(finished_search(market, [(one, other)]).least))


def lends(market, one, other):
    """All least tuples of lent goods that are enough for the two stocks."""
    search = Search(market, [(one, other)])
    least = []
    for lent in lent_choices(market[0]):
        is_more = any([all_among(fewer, lent) for fewer in least])
        if not is_more and search.has_some((0,) * market[0], lent):
            least.append(lent)
    return tuple(sorted(least))


def barred(market, one, other):
    """Regions that are barred for the two stocks; each bag that does not help lies in one of them."""
    return regions_of(finished_search(market, [(one, other)]).closed)


def agreeing_pairs(market):
    """Pairs of stocks that agree, such that a bag helps all exactly if it helps each of them."""
    # With all goods lent, stocks are even exactly if they agree. Then each of them falls to the other's end by rules,
    # and each use of a rule can be done with what lies beside if that helps both bags of the rule.
    return lent_rules(market, tuple(range(market[0])))


def helps_all(market, bag):
    """Whether the bag helps all."""
    return Search(market, agreeing_pairs(market)).helps_each(bag)


def for_all(market):
    """The least bags that help all."""
    return tuple(sorted(finished_search(market, agreeing_pairs(market)).least))
