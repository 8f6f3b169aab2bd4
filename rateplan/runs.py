"""Runs: a talk gone through over a road by a chooser."""

from rateplan.options import AGAIN, BEGIN, MOST
from rateplan.rooms import check_room
from rateplan.tracks import Track


class Run:
    """What came to pass in a talk gone through till its end."""

    def __init__(self, rates, begun, whole, plays, stalls, ended, kept):
        self.rates = rates
        self.begun = begun
        self.whole = whole
        self.plays = plays
        self.stalls = stalls
        self.ended = ended
        self.kept = kept

    def __len__(self):
        return len(self.kept)

    def __eq__(self, other):
        return isinstance(other, Run) and _fields(self) == _fields(other)


def run_of(talk, road, chooser, *, begin=BEGIN, again=AGAIN, most=MOST, wait=0, opens=None):
    """Tell the run of a talk over a road by a chooser; NoRoom ahead of all else."""
    check_room(talk, most)
    track = Track(talk, chooser, begin, again, most, wait)
    while not track.is_over():
        beat = track.gone_by()
        if track.is_due() and _is_there(opens, track.stand_now()[0], beat):
            track.choose()
        track.go(road.speed_at(beat))
    return Run(
        tuple(track.rates),
        tuple(track.begun),
        tuple(track.whole),
        tuple(track.plays),
        tuple(track.stalls),
        track.gone_by(),
        tuple(track.kept),
    )


def _is_there(opens, number, beat):
    """Tell whether a stretch is there at a beat; of a talk that isn't live each one always is."""
    return opens is None or beat >= opens[number]


def _fields(run):
    return (run.rates, run.begun, run.whole, run.plays, run.stalls, run.ended, run.kept)
