"""Watches: how far a talk, its chooser and a road of a kind are, as far as what is to come hangs on it."""

from rateplan.beats import is_asking, is_ended
from rateplan.stands import is_stand
from rateplan.states import behind_choice, behind_speed, first_state, told_rate
from rateplan.wholes import is_rate, is_whole


class Watches:
    """The watches (stand, rate, last, went, past) of a talk by a chooser over the roads of a kind, under options."""

    def __init__(self, talk, chooser, kind, options):
        self.talk = talk
        self.chooser = chooser
        self.slow, self.fast, self.many, self.wide = kind
        self.begin, self.again, self.most, self.wait = options

    def first(self):
        """Tell the first watch."""
        return (*self._behind_asking(first_state()), (0,) * (self.wide - 1))

    def is_watch(self, thing):
        """Tell whether the thing is a watch, whether or not a road comes to it."""
        if not isinstance(thing, tuple) or len(thing) != 5:
            return False
        stand, rate, last, went, past = thing
        return (
            is_stand(self.talk, stand, most=self.most, wait=self.wait)
            and not is_asking(self.talk, stand, self.most)
            and not is_ended(self.talk, stand)
            and is_rate(self.talk, rate)
            and stand[1] in (-1, rate)
            and _can_be_last(last, stand[0])
            and _can_be_gone(went, stand[1])
            and self._can_be_past(past)
        )

    def speeds_let(self, watch):
        """Tell the speeds that the kind lets from a watch, slow ahead of fast."""
        past = watch[4]
        return (self.slow, self.fast) if sum(past) < self.many else (self.fast,)

    def leads(self, watch, speed):
        """Tell whether the beat of a speed is one of a stall, and the watch it leads to, None where that is the end."""
        past = watch[4]
        state = behind_speed(self.talk, watch[:4], speed, self.begin, self.again, self.most)
        stand = state[0]
        stalls = stand[5] == 2
        if is_ended(self.talk, stand):
            return (stalls, None)
        if is_asking(self.talk, stand, self.most):
            state = self._behind_asking(state)
        # One is put behind ahead of one being cut off, so that none at all stay none at all.
        marks = (*past, 1 if speed == self.slow else 0)
        return (stalls, (*state, marks[1:]))

    def _behind_asking(self, state):
        return behind_choice(state, told_rate(self.talk, self.chooser, state), self.wait)

    def _can_be_past(self, thing):
        """Tell whether the thing tells of each of the last beats whether it was slow, and of no more than may be."""
        if not isinstance(thing, tuple) or len(thing) != self.wide - 1:
            return False
        return all([is_whole(mark) and mark in (0, 1) for mark in thing]) and sum(thing) <= self.many


def _can_be_last(thing, fetched):
    """Tell whether the thing can be the bits and beats of the last fetch, so many stretches being whole."""
    if not isinstance(thing, tuple):
        return False
    if fetched == 0:
        return len(thing) == 0
    return len(thing) == 2 and all([is_whole(part) and part >= 1 for part in thing])


def _can_be_gone(thing, coming):
    """Tell whether what is coming, -1 of nothing, can have gone so many beats."""
    return is_whole(thing) and (thing == 0 if coming == -1 else thing >= 0)
