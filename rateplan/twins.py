"""Two tracks: two talks of as many beats that come over one road and are played together."""

from rateplan.errors import Unlike
from rateplan.options import AGAIN, BEGIN, MOST
from rateplan.rooms import check_room
from rateplan.tracks import Track


class Twin:
    """What came to pass in two talks gone through together till their end."""

    def __init__(self, rates, begun, whole, plays, stalls, ended, apart):
        self.rates = rates
        self.begun = begun
        self.whole = whole
        self.plays = plays
        self.stalls = stalls
        self.ended = ended
        self.apart = apart

    def __len__(self):
        return len(self.apart)

    def __eq__(self, other):
        return isinstance(other, Twin) and _fields(self) == _fields(other)


def both_of(talks, road, choosers, *, begin=BEGIN, again=AGAIN, most=MOST, wait=0):
    """Tell the Twin of two talks over a road, by a chooser each; NoRoom, then Unlike, ahead of all else."""
    for talk in talks:
        check_room(talk, most)
    one, other = talks
    if len(one) != len(other):
        raise Unlike(len(one), len(other))
    tracks = [Track(talk, chooser, begin, again, most, wait) for talk, chooser in zip(talks, choosers)]
    first, second = tracks
    apart = []
    while not first.is_over():
        _go_both(first, second, road.speed_at(first.gone_by()))
        apart.append(abs(first.kept[-1] - second.kept[-1]))
    return Twin(
        tuple([tuple(track.rates) for track in tracks]),
        tuple([tuple(track.begun) for track in tracks]),
        tuple([tuple(track.whole) for track in tracks]),
        tuple(first.plays),
        tuple(first.stalls),
        first.gone_by(),
        tuple(apart),
    )


def _go_both(first, second, speed):
    """Let a beat go by in both, a rate being chosen where the one whose turn it is asks for one.

    As many beats are played of both, so fewer are whole of the one that keeps less; while a stretch of it is coming
    that stays so. By what it keeps play begins and lasts, too, so the other one just follows it.
    """
    if first.stand_now()[3] <= second.stand_now()[3]:
        turn, beside = first, second
    else:
        turn, beside = second, first
    if turn.is_due():
        turn.choose()
    turn.go(speed)
    beside.go_beside(turn)


def _fields(twin):
    return (twin.rates, twin.begun, twin.whole, twin.plays, twin.stalls, twin.ended, twin.apart)
