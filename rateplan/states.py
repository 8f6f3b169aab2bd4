"""States: a stand, and beside it what a chooser is shown of the choices and fetches ahead.

A state is (stand, rate, last, went): rate is the one chosen last, None of none; last the (bits, beats) of the
last fetch, () of none; went how many beats what is coming has gone, 0 where none is coming.
"""

from rateplan.beats import behind_beat
from rateplan.choosers import rate_of
from rateplan.stands import chosen, first_stand


def first_state():
    """Tell the state ahead of all choices and beats."""
    return (first_stand(), None, (), 0)


def told_rate(talk, chooser, state):
    """Tell the rate that a chooser tells in a state that asks for one."""
    stand, rate, last, _ = state
    return rate_of(talk, chooser, stand[0], stand[3], rate, last)


def behind_choice(state, rate, wait):
    """Tell the state behind the choice of a rate."""
    stand, _, last, _ = state
    return (chosen(stand, rate, wait=wait), rate, last, 0)


def behind_speed(talk, state, speed, begin, again, most):
    """Tell the state behind a beat of a speed."""
    return led_to(talk, state, behind_beat(talk, state[0], speed, begin, again, most))


def led_to(talk, state, stand):
    """Tell the state behind a beat that led to a stand."""
    ahead, rate, last, went = state
    fetched, coming, _, _, _, _ = ahead
    if coming == -1:
        return (stand, rate, last, 0)
    if stand[1] != -1:
        return (stand, rate, last, went + 1)
    return (stand, rate, (talk.sizes[fetched][coming], went + 1), 0)
