"""The bounds of markets, stocks, papers and desks."""

MAX_GOODS = 4
MAX_TRADES = 4
MAX_AMOUNT = 3
MAX_TOTAL = 4
MAX_STOCK = 60
MAX_NEAR = 6
MAX_PAPER = 400
MAX_RULES = 200
MAX_LENT = 3
MAX_NEEDED = 12
MAX_DESK = 6
MAX_TIMES = 9
