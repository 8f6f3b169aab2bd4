"""Speeds: so many bits in so many beats, and what is told of several."""

from math import gcd, lcm

from rateplan.errors import NoSpeed


class Speed:
    """A speed: so many bits in so many beats, as it was handed in."""

    def __init__(self, bits, beats):
        self.bits = bits
        self.beats = beats

    def __eq__(self, other):
        return isinstance(other, Speed) and self.bits * other.beats == other.bits * self.beats

    def __str__(self):
        return f"{self.bits // gcd(self.bits, self.beats)}/{self.beats // gcd(self.bits, self.beats)}"

    def below(self, other):
        """Tell whether the speed is less fast than the other one."""
        return self.bits * other.beats < other.bits * self.beats

    def floor(self):
        """Tell the whole bits a beat, rounded down."""
        return self.bits // self.beats

    def much(self, beats):
        """Tell the bits in so many beats, rounded down."""
        return self.bits * beats // self.beats


def mean(speeds, *, last=None):
    """Tell the speed of all bits in all beats of the last so many, of all where None; NoSpeed of none."""
    if len(speeds) == 0:
        raise NoSpeed()
    # A slice from further back than there are takes all of them.
    taken = speeds if last is None else speeds[-last:]
    return Speed(sum([speed.bits for speed in taken]), sum([speed.beats for speed in taken]))


def middle(speeds):
    """Tell the one in the middle as they rise, of two the one ahead."""
    beats = _beats_for_all(speeds)
    # In beats that each one's beats divide, no speed is rounded; sorted leaves alike ones in their order.
    rising = sorted(speeds, key=lambda speed: speed.much(beats))
    return rising[(len(rising) - 1) // 2]


def slowest(speeds, *, key=None):
    """Tell the first of those for which key tells the least number, of None the first least fast one."""
    if key is None:
        return _least_fast(speeds)
    found = speeds[0]
    least = key(found)
    for speed in speeds[1:]:
        number = key(speed)
        if number < least:
            found = speed
            least = number
    return found


def _beats_for_all(speeds):
    """Tell the least number of beats that the beats of each speed divide."""
    beats = 1
    for speed in speeds:
        beats = lcm(beats, speed.beats)
    return beats


def _least_fast(speeds):
    """Tell the first of the least fast ones."""
    found = speeds[0]
    for speed in speeds[1:]:
        if speed.below(found):
            found = speed
    return found
