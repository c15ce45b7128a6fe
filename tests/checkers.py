"""What the document says of rules and papers, written apart from the program and without any haste."""


def is_number(value):
    return type(value) is int


def is_bag(goods, value):
    return type(value) is tuple and len(value) == goods and all(is_number(n) and n >= 0 for n in value)


def holds(bag, other):
    return all(n >= m for n, m in zip(bag, other, strict=True))


def added(one, other):
    return tuple(n + m for n, m in zip(one, other, strict=True))


def without(one, other):
    return tuple(n - m for n, m in zip(one, other, strict=True))


def is_plainer(one, other):
    if one[-1] != other[-1]:
        return one[-1] < other[-1]
    if sum(one) != sum(other):
        return sum(one) < sum(other)
    unlike = [(n, m) for n, m in zip(one, other, strict=True) if n != m]
    return bool(unlike) and unlike[0][0] < unlike[0][1]


def slow_fall(rules, stock):
    while True:
        usable = [rule for rule in rules if holds(stock, rule[0])]
        if not usable:
            return stock
        stock = added(without(stock, usable[0][0]), usable[0][1])


def is_rule(goods, value):
    if not (type(value) is tuple and len(value) == 2 and is_bag(goods, value[0]) and is_bag(goods, value[1])):
        return False
    return is_plainer(value[1], value[0])


def meet(rules, one, other):
    both = tuple(max(n, m) for n, m in zip(one[0], other[0], strict=True))
    ends = [slow_fall(rules, added(without(both, left), right)) for left, right in (one, other)]
    return ends[0] == ends[1]


def list_fault(goods, value):
    """What list_error must return."""
    if type(value) is not tuple:
        return (None, "list")
    places = range(len(value))
    wrong = [k for k in places if not is_rule(goods, value[k])]
    if wrong:
        return (wrong[0], "rule")
    wrong = [k for k in places if k and not is_plainer(value[k - 1][0], value[k][0])]
    if wrong:
        return (wrong[0], "order")
    for k in places:
        if any(holds(value[k][0], value[j][0]) for j in places if j != k):
            return (k, "held")
        if any(holds(value[k][1], value[j][0]) for j in places):
            return (k, "held")
    for k in places:
        if not all(meet(value, value[j], value[k]) for j in range(k)):
            return (k, "apart")
    return None


def end_of_moves(pairs, stock, moves):
    """Where the moves lead; None if they are none or cannot be done."""
    if type(moves) is not tuple:
        return None
    for move in moves:
        if not (type(move) is tuple and len(move) == 2 and is_number(move[0]) and type(move[1]) is bool):
            return None
        if not 0 <= move[0] < len(pairs):
            return None
        taken, given = pairs[move[0]][::-1] if move[1] else pairs[move[0]]
        if not holds(stock, taken):
            return None
        stock = added(without(stock, taken), given)
    return stock


def is_chain_paper(market, one, other, value):
    goods, trades = market
    if not (type(value) is tuple and len(value) == 3 and type(value[0]) is str and value[0] == "chain"):
        return False
    pairs = list(trades)
    if type(value[1]) is not tuple:
        return False
    for entry in value[1]:
        if not (type(entry) is tuple and len(entry) == 3 and is_bag(goods, entry[0]) and is_bag(goods, entry[1])):
            return False
        if end_of_moves(pairs, entry[0], entry[2]) != entry[1]:
            return False
        pairs.append(entry[:2])
    return end_of_moves(pairs, one, value[2]) == other


def is_parting_paper(market, one, other, value):
    goods, trades = market
    if not (type(value) is tuple and len(value) == 2 and type(value[0]) is str and value[0] == "parting"):
        return False
    rules = value[1]
    if type(rules) is not tuple or len(rules) > 200 or not all(is_rule(goods, rule) for rule in rules):
        return False
    if any(amount > 400 for rule in rules for bag in rule for amount in bag):
        return False
    if slow_fall(rules, one) == slow_fall(rules, other):
        return False
    if any(slow_fall(rules, give) != slow_fall(rules, get) for give, get in trades):
        return False
    return all(meet(rules, rules[j], rules[k]) for k in range(len(rules)) for j in range(k))
