"""Tracks: a talk on its way by a chooser, and what came to pass in it beat by beat."""

from rateplan.beats import behind_beat, is_asking, is_ended
from rateplan.choosers import rate_of
from rateplan.stands import chosen, first_stand


class Track:
    """A talk on its way: its stand, the number of the beat that comes next, and the tale of the beats till then."""

    def __init__(self, talk, chooser, begin, again, most, wait):
        self.talk = talk
        self.chooser = chooser
        self.begin = begin
        self.again = again
        self.most = most
        self.wait = wait
        self.stand = first_stand()
        self.beat = 0
        self.rates = []
        self.begun = []
        self.whole = []
        self.plays = []
        self.stalls = []
        self.kept = []

    def is_over(self):
        """Tell whether the talk is ended."""
        return is_ended(self.talk, self.stand)

    def is_due(self):
        """Tell whether a rate has to be chosen."""
        return is_asking(self.talk, self.stand, self.most)

    def choose(self):
        """Have the chooser choose a rate for the stretch that comes next."""
        number = len(self.rates)
        rate = rate_of(self.talk, self.chooser, number, self.stand[3], self._last_rate(), self._last_fetch())
        self.rates.append(rate)
        self.begun.append(self.beat)
        self.stand = chosen(self.stand, rate, wait=self.wait)

    def go(self, speed):
        """Let a beat of a speed go by."""
        ahead = self.stand
        self.stand = behind_beat(self.talk, ahead, speed, self.begin, self.again, self.most)
        fetched, _, _, kept, played, going = self.stand
        if played > ahead[4]:
            self.plays.append(self.beat)
        if going == 2:
            self._stall()
        self.kept.append(kept)
        self.beat += 1
        if fetched > ahead[0]:
            self.whole.append(self.beat)

    def _last_rate(self):
        return self.rates[-1] if self.rates else None

    def _last_fetch(self):
        if not self.rates:
            return None
        last = len(self.rates) - 1
        return (self.talk.sizes[last][self.rates[last]], self.whole[last] - self.begun[last])

    def _stall(self):
        """Note the beat as one of a stall, of the last one where that goes on."""
        if self.stalls and sum(self.stalls[-1]) == self.beat:
            first, many = self.stalls[-1]
            self.stalls[-1] = (first, many + 1)
        else:
            self.stalls.append((self.beat, 1))
