"""Choosers: the rate that a plan or a rule tells for a stretch."""

from rateplan.speeds import Speed
from rateplan.wholes import is_rate


def rate_of(talk, chooser, number, kept, rate, fetch):
    """Tell the rate chosen for a stretch, so many beats being kept.

    rate is the one chosen last, None of none; fetch the bits and the beats of the last fetch, None of none.
    """
    if isinstance(chooser, tuple):
        return chooser[number]
    speed = None if fetch is None else Speed(fetch[0], fetch[1])
    told = chooser((number, kept, rate, speed))
    return told if is_rate(talk, told) else 0
