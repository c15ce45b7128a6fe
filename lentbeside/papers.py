"""Papers that show, without a search, that two stocks are even or that they are not."""

from lentbeside.bounds import MAX_PAPER, MAX_RULES
from lentbeside.errors import BadStep
from lentbeside.even import ledger_of, the_list, turned
from lentbeside.lists import all_meet, descent, fall, is_rule
from lentbeside.markets import is_bag, is_pair, walk


def needed_numbers(ledger, trades, runs):
    """The numbers, ascending, of all pairs found that the runs use, also through others."""
    needed = {move[0]: True for move, times in runs}
    # A pair uses only what stands ahead of it.
    for n in range(len(ledger.exchanges) - 1, trades - 1, -1):
        if n in needed:
            for move, times in ledger.origins[n - trades]:
                needed[move[0]] = True
    return [n for n in sorted(needed) if n >= trades]


def written_moves(runs, numbers):
    """The moves of the runs one by one, with the numbers that they have in the paper."""
    moves = []
    for (n, back), times in runs:
        moves += [(numbers[n], back)] * times
    return tuple(moves)


def chain_of(ledger, trades, runs):
    """The chain paper with the moves of the runs, and with no more entries than they need."""
    needed = needed_numbers(ledger, trades, runs)
    numbers = {n: k for k, n in enumerate(list(range(trades)) + needed)}
    book = []
    for n in needed:
        left, right = ledger.exchanges[n]
        book.append((left, right, written_moves(ledger.origins[n - trades], numbers)))
    return ("chain", tuple(book), written_moves(runs, numbers))


def chain_paper(market, one, other):
    """A chain paper for the two stocks; None if they are not even."""
    ledger = ledger_of(market)
    end, uses = descent(ledger.rules, one)
    other_end, other_uses = descent(ledger.rules, other)
    if end != other_end:
        return None
    runs = ledger.runs_of(uses) + turned(ledger.runs_of(other_uses))
    return chain_of(ledger, len(market[1]), runs)


def parting_paper(market, one, other):
    """A parting paper for the two stocks; None if they are even."""
    rules = the_list(market)
    return None if fall(rules, one) == fall(rules, other) else ("parting", rules)


def leads(goods, exchanges, one, other, moves):
    """Whether moves, any value, is a tuple of moves by these exchanges that lead from one to other."""
    # A move is done like a step of a market that has all these exchanges as its trades.
    try:
        way = walk((goods, exchanges), one, moves)
    except BadStep:
        return False
    return way[-1] == other


def is_entry(goods, exchanges, value):
    """Whether value is an entry of a book, with moves by these exchanges."""
    if not isinstance(value, tuple) or len(value) != 3:
        return False
    left, right, moves = value
    return is_bag(goods, left) and is_bag(goods, right) and leads(goods, exchanges, left, right, moves)


def is_chain(market, one, other, value):
    """Whether value is a chain paper for the two stocks."""
    if not isinstance(value, tuple) or len(value) != 3:
        return False
    word, book, moves = value
    if word != "chain" or not isinstance(book, tuple):
        return False
    goods, trades = market
    exchanges = list(trades)
    for entry in book:
        if not is_entry(goods, exchanges, entry):
            return False
        exchanges.append((entry[0], entry[1]))
    return leads(goods, exchanges, one, other, moves)


def is_paper_rule(goods, value):
    """Whether value is a rule that may stand in a parting paper."""
    return is_rule(goods, value) and all([max(bag) <= MAX_PAPER for bag in value])


def is_parting(market, one, other, value):
    """Whether value is a parting paper for the two stocks."""
    if not is_pair(value) or value[0] != "parting" or not isinstance(value[1], tuple):
        return False
    goods, trades = market
    rules = value[1]
    if len(rules) > MAX_RULES or not all([is_paper_rule(goods, rule) for rule in rules]):
        return False
    if fall(rules, one) == fall(rules, other):
        return False
    return all([fall(rules, give) == fall(rules, get) for give, get in trades]) and all_meet(rules)
