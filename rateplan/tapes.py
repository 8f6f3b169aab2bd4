"""Tapes: the speeds of a road told beat by beat in any order, and how a talk goes over it as far as it is told."""

from rateplan.errors import NoPace
from rateplan.options import AGAIN, BEGIN, MOST
from rateplan.rooms import check_room
from rateplan.tracks import Track
from rateplan.wholes import is_count


class Tape:
    """A talk, a chooser and options, and the speeds told of beats; a beat of which none is told has 0."""

    def __init__(self, talk, chooser, *, begin=BEGIN, again=AGAIN, most=MOST, wait=0):
        check_room(talk, most)
        self._talk = talk
        self._chooser = chooser
        self._options = (begin, again, most, wait)
        self._speeds = {}

    def __len__(self):
        return len(self._speeds)

    def __eq__(self, other):
        return isinstance(other, Tape) and self._parts() == other._parts()

    def tell(self, beat, speed):
        """Tell the speed of a beat, in the stead of one told of it before; NoPace of the beat, then of the speed."""
        if not is_count(beat):
            raise NoPace(beat)
        if not is_count(speed):
            raise NoPace(speed)
        self._speeds[beat] = speed

    def stand_behind(self, beat):
        """Tell the stand behind so many beats, behind the end the last one, a rate being chosen where it asks."""
        return self._track_till(beat).stand_now()

    def played_till(self, beat):
        """Tell (beat, number of the beat of the talk) of each played in so many beats."""
        return tuple([(at, number) for number, at in enumerate(self._track_till(beat).plays)])

    def chosen_till(self, beat):
        """Tell the rates chosen in so many beats, one chosen behind them, too."""
        return tuple(self._track_till(beat).rates)

    def _track_till(self, beat):
        """Tell the talk on its way behind so many beats, gone anew, as any of them may have been told since."""
        begin, again, most, wait = self._options
        track = Track(self._talk, self._chooser, begin, again, most, wait)
        track.choose()
        while track.gone_by() < beat and not track.is_over():
            track.go(self._speeds.get(track.gone_by(), 0))
            if track.is_due():
                track.choose()
        return track

    def _parts(self):
        """Tell what makes two tapes equal: noughts told are as noughts left out."""
        speeds = {beat: speed for beat, speed in self._speeds.items() if speed > 0}
        return (self._talk, self._chooser, self._options, speeds)
