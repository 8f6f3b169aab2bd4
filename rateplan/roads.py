"""Roads: so many bits a beat, piece by piece, the last speed for ever."""


class Road:
    """A road: pieces of so many beats of one speed each, the last speed going on for ever."""

    def __init__(self, pieces):
        self.pieces = pieces

    def __len__(self):
        return len(range(sum([beats for beats, _ in self.pieces])))

    def __eq__(self, other):
        return isinstance(other, Road) and _changes(self.pieces) == _changes(other.pieces)

    def __str__(self):
        return " ".join([f"{beats}x{speed}" for beats, speed in self.pieces])

    def speed_at(self, beat):
        """Tell the speed of a beat."""
        left = beat
        for beats, speed in self.pieces:
            if left < beats:
                return speed
            left -= beats
        return self._last_speed()

    def sum_of(self, first, last):
        """Tell the bits of the beats from first on, ahead of last."""
        bits = 0
        at = 0
        for beats, speed in self.pieces:
            end = at + beats
            bits += speed * max(0, min(end, last) - max(at, first))
            at = end
        return bits + self._last_speed() * max(0, last - max(at, first))

    def fetched(self, begin, size, *, wait=0):
        """Tell the beat behind the one in which a size is whole, begun at a beat, wait beats going by ahead."""
        first = begin + wait
        left = size
        at = 0
        for beats, speed in self.pieces:
            end = at + beats
            bits = speed * max(0, end - max(at, first))
            if bits >= left:
                return max(at, first) + _beats_for(left, speed)
            left -= bits
            at = end
        return max(at, first) + _beats_for(left, self._last_speed())

    def behind(self, beat):
        """Tell a road that is as this one is from the beat on."""
        left = beat
        for at, (beats, speed) in enumerate(self.pieces):
            if left < beats:
                return Road(((beats - left, speed),) + self.pieces[at + 1:])
            left -= beats
        return Road(((1, self._last_speed()),))

    def _last_speed(self):
        return self.pieces[-1][1]


def known(speeds):
    """Tell a road of speeds told beat by beat, the last one going on for ever."""
    pieces = []
    for speed in speeds:
        if pieces and pieces[-1][1] == speed:
            pieces[-1] = (pieces[-1][0] + 1, speed)
        else:
            pieces.append((1, speed))
    return Road(tuple(pieces))


def _changes(pieces):
    """Tell where another speed begins, and which; roads of the same speeds have the same ones."""
    changes = []
    at = 0
    for beats, speed in pieces:
        if not changes or changes[-1][1] != speed:
            changes.append((at, speed))
        at += beats
    return changes


def _beats_for(bits, speed):
    """Tell in how many beats of a speed the bits come, the last beat being counted whole."""
    return (bits + speed - 1) // speed
