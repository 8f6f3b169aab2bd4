"""Stands: how far a talk is fetched, kept and played."""

from rateplan.beats import behind_beat, is_asking
from rateplan.options import AGAIN, BEGIN, MOST
from rateplan.rooms import check_room
from rateplan.wholes import is_rate, is_whole


def first_stand():
    """Tell the stand ahead of all beats."""
    return (0, -1, 0, 0, 0, 0)


def is_stand(talk, thing, *, most=MOST, wait=0):
    """Tell whether the thing is a right stand for the talk; NoRoom ahead of all else."""
    check_room(talk, most)
    if not isinstance(thing, tuple) or len(thing) != 6:
        return False
    if not all([is_whole(part) for part in thing]):
        return False
    fetched, coming, got, kept, played, going = thing
    return (
        0 <= fetched <= len(talk.lengths)
        and 0 <= kept <= most
        and played >= 0
        and kept + played == sum(talk.lengths[:fetched])
        and _comes_right(talk, fetched, coming, got, wait)
        and (going == 0 if played == 0 else going in (1, 2))
    )


def asks(talk, stand, *, most=MOST):
    """Tell whether the stand asks for a rate; NoRoom ahead of all else."""
    check_room(talk, most)
    return is_asking(talk, stand, most)


def chosen(stand, rate, *, wait=0):
    """Tell the stand behind the choice of a rate."""
    fetched, _, _, kept, played, going = stand
    return (fetched, rate, -wait, kept, played, going)


def gone(talk, stand, speed, *, begin=BEGIN, again=AGAIN, most=MOST):
    """Tell the stand behind a beat of a speed; NoRoom ahead of all else."""
    check_room(talk, most)
    return behind_beat(talk, stand, speed, begin, again, most)


def _comes_right(talk, fetched, coming, got, wait):
    """Tell whether what is coming, and what of it is here, can be so."""
    if coming == -1:
        return got == 0
    return (
        is_rate(talk, coming)
        and fetched < len(talk.lengths)
        and -wait <= got < talk.sizes[fetched][coming]
    )
