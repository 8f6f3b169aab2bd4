"""Tracks: a talk on its way by a chooser, and what came to pass in it beat by beat."""

from rateplan.beats import behind_beat, is_asking, is_ended
from rateplan.states import behind_choice, first_state, led_to, told_rate


class Track:
    """A talk on its way: its state, how many beats went by, and the tale of these beats."""

    def __init__(self, talk, chooser, begin, again, most, wait):
        self.talk = talk
        self.chooser = chooser
        self.begin = begin
        self.again = again
        self.most = most
        self.wait = wait
        self.state = first_state()
        self.rates = []
        self.begun = []
        self.whole = []
        self.plays = []
        self.stalls = []
        self.kept = []

    def stand_now(self):
        """Tell the stand."""
        return self.state[0]

    def gone_by(self):
        """Tell how many beats went by, so the number of the one that comes next."""
        return len(self.kept)

    def is_over(self):
        """Tell whether the talk is ended."""
        return is_ended(self.talk, self.stand_now())

    def is_due(self):
        """Tell whether a rate has to be chosen."""
        return is_asking(self.talk, self.stand_now(), self.most)

    def is_stalled(self):
        """Tell whether the last beat was one of a stall."""
        return self.stand_now()[5] == 2

    def choose(self):
        """Have the chooser choose a rate for the stretch that comes next."""
        rate = told_rate(self.talk, self.chooser, self.state)
        self.rates.append(rate)
        self.begun.append(self.gone_by())
        self.state = behind_choice(self.state, rate, self.wait)

    def go(self, speed):
        """Let a beat of a speed go by."""
        self._go_to(behind_beat(self.talk, self.stand_now(), speed, self.begin, self.again, self.most))

    def go_beside(self, other):
        """Let the beat go by that the other track has just gone, playing as that did; here nothing is coming."""
        fetched, coming, got, kept, played, _ = self.stand_now()
        _, _, _, _, played_there, going = other.stand_now()
        self._go_to((fetched, coming, got, kept + played - played_there, played_there, going))

    def _go_to(self, stand):
        """Note the beat that leads to a stand."""
        beat = self.gone_by()
        fetched, _, _, _, played, _ = self.stand_now()
        self.state = led_to(self.talk, self.state, stand)
        if stand[4] > played:
            self.plays.append(beat)
        if self.is_stalled():
            self._stall(beat)
        self.kept.append(stand[3])
        if stand[0] > fetched:
            self.whole.append(beat + 1)

    def _stall(self, beat):
        """Note the beat as one of a stall, of the last one where that goes on."""
        if self.stalls and sum(self.stalls[-1]) == beat:
            first, many = self.stalls[-1]
            self.stalls[-1] = (first, many + 1)
        else:
            self.stalls.append((beat, 1))
