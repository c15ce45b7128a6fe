"""Plainness of bags, rules by which stocks fall, and finished tuples of rules."""

from lentbeside.markets import exchange, holds, is_bag, is_pair


def plainness(bag):
    """What bags are compared by: a plainer bag has less of it."""
    return (bag[-1], sum(bag), bag)


def plainer(one, other):
    """Whether the bag one is plainer than the bag other."""
    return plainness(one) < plainness(other)


def first_use(rules, stock):
    """The index of the first rule that can be used; None if there is none."""
    for k, rule in enumerate(rules):
        if holds(stock, rule[0]):
            return k
    return None


def times_alone(rule, stock):
    """How many times in a row the rule can be used."""
    left, right = rule
    # A plainer bag has less of some good, so there is something to take the least of.
    return min([(many - less) // (less - more) + 1 for many, less, more in zip(stock, left, right) if less > more])


def times_until(rule, stock, bag, most):
    """After how many uses of the rule, fewer than most, the stock holds the bag; most if it never does."""
    low = 0
    high = most - 1
    for many, less, more, wanted in zip(stock, rule[0], rule[1], bag):
        if more > less:
            low = max(low, (wanted - many + more - less - 1) // (more - less))
        elif less > more:
            high = min(high, (many - wanted) // (less - more))
        elif many < wanted:
            return most
    return low if low <= high else most


def times_in_a_row(rules, k, stock):
    """How many times rule k, the first one that can be used, is used before another one is."""
    most = times_alone(rules[k], stock)
    for rule in rules[:k]:
        if most > 1:
            most = times_until(rules[k], stock, rule[0], most)
    return most


def after_uses(rule, stock, times):
    """The stock to which so many uses of the rule lead."""
    left, right = rule
    return tuple([many + times * (more - less) for many, less, more in zip(stock, left, right)])


def descent(rules, stock):
    """What the stock falls to, and the list of pairs (index of a rule, times in a row) on the way."""
    uses = []
    k = first_use(rules, stock)
    while k is not None:
        times = times_in_a_row(rules, k, stock)
        stock = after_uses(rules[k], stock, times)
        uses.append((k, times))
        k = first_use(rules, stock)
    return stock, uses


def fall(rules, stock):
    """What the stock falls to by the rules."""
    return descent(rules, stock)[0]


def joined(one, other):
    """The least bag that holds both."""
    return tuple([max(amount, like) for amount, like in zip(one, other)])


class Falls:
    """What bags fall to by rules, found once for each bag."""

    def __init__(self, rules):
        self.rules = rules
        self.ends = {}

    def end_of(self, bag):
        """What the bag falls to."""
        if bag not in self.ends:
            self.ends[bag] = fall(self.rules, bag)
        return self.ends[bag]

    def meet(self, one, other):
        """Whether two of the rules meet."""
        both = joined(one[0], other[0])
        return self.end_of(exchange(both, one[0], one[1])) == self.end_of(exchange(both, other[0], other[1]))


def first_apart(rules):
    """The index of the first rule that does not meet some rule ahead of it; None if there is none."""
    falls = Falls(rules)
    for k, rule in enumerate(rules):
        for ahead in rules[:k]:
            if not falls.meet(ahead, rule):
                return k
    return None


def least_rules(rules):
    """Some of the rules: each left of a rule holds one of theirs, but none of theirs holds another one."""
    least = []
    # In ascending order, so that a left comes behind all those that it holds.
    for rule in sorted(rules, key=lambda item: plainness(item[0])):
        if first_use(least, rule[0]) is None:
            least.append(rule)
    return least


def all_meet(rules):
    """Whether any two of the rules meet."""
    # They do exactly if each bag ends the same way, whatever rules are used. The least rules can be used wherever
    # any rule can; so it is enough that these meet, and that the others do nothing but what these do.
    falls = Falls(least_rules(rules))
    if not all([falls.end_of(left) == falls.end_of(right) for left, right in rules]):
        return False
    return first_apart(falls.rules) is None


def is_rule(goods, value):
    """Whether value is a rule for so many goods."""
    if not is_pair(value) or not all([is_bag(goods, bag) for bag in value]):
        return False
    return plainer(value[1], value[0])


def is_held(rules, k):
    """Whether the left of rule k holds the left of another rule, or its right the left of any."""
    left, right = rules[k]
    for other, rule in enumerate(rules):
        if holds(right, rule[0]) or (other != k and holds(left, rule[0])):
            return True
    return False


def list_error(goods, value):
    """None for a finished tuple of rules, otherwise the pair (place, word) of the first fault."""
    if not isinstance(value, tuple):
        return (None, "list")
    for k, item in enumerate(value):
        if not is_rule(goods, item):
            return (k, "rule")
    for k in range(1, len(value)):
        if not plainer(value[k - 1][0], value[k][0]):
            return (k, "order")
    for k in range(len(value)):
        if is_held(value, k):
            return (k, "held")
    apart = first_apart(value)
    return None if apart is None else (apart, "apart")
