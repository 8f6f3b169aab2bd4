"""The options, as they are where they are left out."""

# How many beats have to be kept ahead of the first play.
BEGIN = 4

# How many beats have to be kept ahead of play behind a stall.
AGAIN = 8

# How many beats may be kept.
MOST = 30

# The part (top, bottom) of the last speed that a rule counts on.
PART = (4, 5)

# How many watches may be come to.
LIMIT = 2000
