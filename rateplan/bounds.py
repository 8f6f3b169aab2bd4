"""The bounds of a talk that is read from a text."""

MOST_STRETCHES = 12
MOST_BEATS = 20
MOST_RATES = 4
MOST_BITS = 1000
