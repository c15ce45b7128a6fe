"""The list of a market, and which stocks are even."""

from lentbeside.lists import descent, fall, joined, plainer, plainness
from lentbeside.markets import after_step, holds


def turned(runs):
    """The runs that lead back."""
    return [((n, not back), times) for (n, back), times in runs[::-1]]


def share(one, other):
    """Whether there is a good of which both bags have some."""
    return any([amount > 0 and like > 0 for amount, like in zip(one, other)])


def is_settled(lefts, one, other):
    """Whether rules with the lefts one and other need not be tried, because others with these lefts are."""
    # Rules without a common good never get in each other's way.
    if not share(one, other):
        return True
    both = joined(one, other)
    for left in lefts:
        # What the two make of the bag both is then told by a third rule, which meets each of them in less than it.
        if holds(both, left) and joined(one, left) != both and joined(other, left) != both:
            return True
    return False


class Ledger:
    """Rules that follow from trades, and what each of them follows from.

    A move (n, back) uses the pair exchanges[n] like a step: first stand the trades, then pairs that were found.
    A run (move, times) is a move that is done so many times. origins has, for each pair that was found, the runs
    that lead from its first bag to its second one. rules are those in use, and moves are what does them. waiting
    are questions, the plainest one last: what a bag comes to by two ways, each of at most one move.
    """

    def __init__(self, trades):
        self.exchanges = list(trades)
        self.origins = []
        self.rules = []
        self.moves = []
        self.waiting = []

    def ask(self, bag, way, other):
        """Puts a question to those that wait."""
        self.waiting.append((plainness(bag), way, other))

    def ask_trades(self):
        """Asks what the bags of each trade fall to."""
        for n, (give, get) in enumerate(list(self.exchanges)):
            upward = plainer(give, get)
            self.ask(get if upward else give, (), ((n, upward),))
        self.waiting = sorted(self.waiting, reverse=True)

    def runs_of(self, uses):
        """The runs that stand for uses of the rules."""
        return [(self.moves[k], times) for k, times in uses]

    def way_down(self, bag, way):
        """What the bag falls to after the moves of the way, and the runs that lead there."""
        for move in way:
            bag = after_step((len(bag), self.exchanges), bag, move)
        end, uses = descent(self.rules, bag)
        return end, [(move, 1) for move in way] + self.runs_of(uses)

    def enter(self, left, right, runs):
        """The move that does what the runs do."""
        if len(runs) == 1 and runs[0][1] == 1:
            return runs[0][0]
        self.exchanges.append((left, right))
        self.origins.append(runs)
        return (len(self.exchanges) - 1, False)

    def drop(self, left):
        """Takes the rules out of use whose lefts hold the new one; what they do must come of others then."""
        kept = []
        for rule, move in zip(self.rules, self.moves):
            if holds(rule[0], left):
                self.ask(rule[0], (), (move,))
            else:
                kept.append((rule, move))
        self.rules = [rule for rule, move in kept]
        self.moves = [move for rule, move in kept]

    def learn(self, left, right, runs):
        """Takes a new rule into use."""
        self.drop(left)
        new = self.enter(left, right, runs)
        for rule, move in zip(self.rules, self.moves):
            self.ask(joined(rule[0], left), (move,), (new,))
        self.rules.append((left, right))
        self.moves.append(new)
        self.waiting = sorted(self.waiting, reverse=True)

    def is_idle(self, way, other):
        """Whether nothing new can come of the two ways."""
        if way == ():
            return False
        lefts = {move: rule[0] for move, rule in zip(self.moves, self.rules)}
        one = lefts.get(way[0])
        two = lefts.get(other[0])
        # What a rule did that is out of use comes of others.
        return one is None or two is None or is_settled(list(lefts.values()), one, two)

    def answer(self, bag, way, other):
        """Finds what the bag comes to by both ways; if that is not the same, it makes a new rule."""
        if self.is_idle(way, other):
            return
        one, runs = self.way_down(bag, way)
        two, others = self.way_down(bag, other)
        if plainer(one, two):
            self.learn(two, one, turned(others) + runs)
        elif plainer(two, one):
            self.learn(one, two, turned(runs) + others)

    def answer_all(self):
        """Answers questions until none waits."""
        while len(self.waiting) > 0:
            key, way, other = self.waiting.pop()
            self.answer(key[-1], way, other)

    def tidy(self):
        """Puts the rules into order and lets their rights fall."""
        rows = sorted([(plainness(rule[0]), rule[1], move) for rule, move in zip(self.rules, self.moves)])
        moves = []
        rules = []
        for key, right, move in rows:
            end, runs = self.way_down(right, ())
            moves.append(self.enter(key[-1], end, [(move, 1)] + runs))
            rules.append((key[-1], end))
        self.moves = moves
        self.rules = rules


def ledger_of(market):
    """A ledger whose rules are the list of the market."""
    ledger = Ledger(market[1])
    ledger.ask_trades()
    ledger.answer_all()
    ledger.tidy()
    return ledger


def the_list(market):
    """The list of the market."""
    return tuple(ledger_of(market).rules)


def plainest(market, stock):
    """The plainest of all stocks that are even with the stock."""
    return fall(the_list(market), stock)


def even(market, one, other):
    """Whether two stocks are even."""
    rules = the_list(market)
    return fall(rules, one) == fall(rules, other)
