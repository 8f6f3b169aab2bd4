"""Beats: what a stand asks for, and what one beat makes of it, without a look at whether there is room at all."""

from rateplan.rooms import has_room


def is_asking(talk, stand, most):
    """Tell whether the stand asks for a rate."""
    fetched = stand[0]
    coming = stand[1]
    return coming == -1 and fetched < len(talk.lengths) and has_room(talk, stand, most)


def is_ended(talk, stand):
    """Tell whether all beats of the talk are played."""
    played = stand[4]
    return played == len(talk)


def behind_beat(talk, stand, speed, begin, again, most):
    """Tell the stand behind a beat of a speed."""
    fetched, coming, got, kept, played, going = stand
    if going != 1 and _play_begins(talk, stand, begin, again, most):
        going = 1
    if going == 1 and kept > 0:
        kept -= 1
        played += 1
    elif going == 1:
        going = 2
    if coming == -1:
        return (fetched, coming, got, kept, played, going)
    got += 1 if got < 0 else speed
    if got < talk.sizes[fetched][coming]:
        return (fetched, coming, got, kept, played, going)
    # What becomes whole in this beat is kept behind all else, so none of it was played here. A player may have
    # sought a beat within it: then just what is not ahead of the beat played next is kept.
    return (fetched + 1, -1, 0, sum(talk.lengths[:fetched + 1]) - played, played, going)


def _play_begins(talk, stand, begin, again, most):
    """Tell whether play begins in the next beat of a stand that isn't in play."""
    fetched, coming, _, kept, _, going = stand
    needed = begin if going == 0 else again
    if kept >= needed or fetched == len(talk.lengths):
        return True
    # Nothing more could be kept without play; a stretch that isn't there yet has room, and is waited for.
    return coming == -1 and not has_room(talk, stand, most)
