"""Checks of what is told of stalls: papers that there is none, and roads that bring one, whoever wrote them."""

from rateplan.kinds import is_of_kind
from rateplan.options import AGAIN, BEGIN, MOST
from rateplan.rooms import check_room
from rateplan.tracks import Track
from rateplan.watches import Watches


def never_holds(talk, chooser, kind, thing, *, begin=BEGIN, again=AGAIN, most=MOST, wait=0):
    """Tell whether the thing is a paper that the chooser never stalls over roads of the kind; NoRoom ahead of all."""
    check_room(talk, most)
    watches = Watches(talk, chooser, kind, (begin, again, most, wait))
    if not isinstance(thing, tuple) or not all([watches.is_watch(part) for part in thing]):
        return False
    if not all([one < other for one, other in zip(thing, thing[1:])]):
        return False
    there = {watch: True for watch in thing}
    return watches.first() in there and all([_holds_at(watches, there, watch) for watch in thing])


def stalls_holds(talk, chooser, kind, thing, *, begin=BEGIN, again=AGAIN, most=MOST, wait=0):
    """Tell whether the thing is a road of the kind that stalls first in its last beat; NoRoom ahead of all."""
    check_room(talk, most)
    if not is_of_kind(kind, thing):
        return False
    track = Track(talk, chooser, begin, again, most, wait)
    for speed in thing:
        if track.is_over() or track.is_stalled():
            return False
        if track.is_due():
            track.choose()
        track.go(speed)
    return track.is_stalled()


def _holds_at(watches, there, watch):
    """Tell whether each speed that is let leads to the end or to a watch that is there, by no beat of a stall."""
    for speed in watches.speeds_let(watch):
        stalls, led = watches.leads(watch, speed)
        if stalls or (led is not None and led not in there):
            return False
    return True
