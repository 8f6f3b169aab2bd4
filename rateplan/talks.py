"""Talks: stretches of beats, each kept at several rates."""

from rateplan.errors import NoBeat, Unlike
from rateplan.wholes import is_whole


class Talk:
    """A talk: the beats of each stretch, and its bits at each rate."""

    def __init__(self, lengths, sizes):
        self.lengths = lengths
        self.sizes = sizes

    def __len__(self):
        return len(range(sum(self.lengths)))

    def __eq__(self, other):
        return isinstance(other, Talk) and self.lengths == other.lengths and self.sizes == other.sizes

    def __str__(self):
        return f"{len(self.lengths)} stretches, {len(self)} beats, {self.many_rates()} rates"

    def __repr__(self):
        return f"Talk({self.lengths!r}, {self.sizes!r})"

    def many_rates(self):
        """Tell at how many rates each stretch is kept."""
        return len(self.sizes[0])

    def cut(self, first, last):
        """Tell the talk of the stretches from first to last, both too."""
        behind = last + 1
        return Talk(self.lengths[first:behind], self.sizes[first:behind])

    def joined(self, other):
        """Tell the talk with the other one's stretches behind; Unlike where their rates are not as many."""
        if self.many_rates() != other.many_rates():
            raise Unlike(self.many_rates(), other.many_rates())
        return Talk(self.lengths + other.lengths, self.sizes + other.sizes)

    def place(self, beat):
        """Tell the stretch of a beat of the talk, and the beat in it; NoBeat of anything else."""
        if not is_whole(beat) or not 0 <= beat < len(self):
            raise NoBeat(beat)
        left = beat
        stretch = 0
        while left >= self.lengths[stretch]:
            left -= self.lengths[stretch]
            stretch += 1
        return (stretch, left)
