"""Choosers: the rate that a plan or a rule tells for a stretch."""

from rateplan.speeds import Speed
from rateplan.wholes import is_rate


def rate_of(talk, chooser, number, kept, rate, last):
    """Tell the rate chosen for a stretch, so many beats being kept.

    rate is the one chosen last, None of none; last the bits and the beats of the last fetch, () of none.
    """
    if isinstance(chooser, tuple):
        return chooser[number]
    speed = Speed(last[0], last[1]) if last else None
    told = chooser((number, kept, rate, speed))
    return told if is_rate(talk, told) else 0
