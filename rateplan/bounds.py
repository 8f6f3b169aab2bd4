"""The bounds of what is read, kept and found: talks, roads, terms, kinds and options."""

MOST_STRETCHES = 12
MOST_BEATS = 20
MOST_RATES = 4
MOST_BITS = 1000

# Of a talk of which a best plan is asked.
BEST_STRETCHES = 6
BEST_RATES = 3
BEST_BITS = 200

# Of a talk of which it is asked whether it ever stalls.
NEVER_STRETCHES = 8

MOST_PIECES = 12
MOST_PIECE_BEATS = 50
MOST_SPEED = 1000

# Either way.
MOST_TERM = 1000000

MOST_WIDE = 6
MOST_OPTION = 400
