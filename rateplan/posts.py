"""Posts of best plans: what each rate leads to from there, and what it brings."""

from rateplan.beats import is_asking
from rateplan.stands import first_stand, is_stand
from rateplan.wholes import is_rate, is_whole


class Posts:
    """The posts (beat, stand, rate, left) of plans for a talk over a road, by terms, bounds and options."""

    def __init__(self, talk, road, terms, bounds, options):
        self.talk = talk
        self.road = road
        self.terms = terms
        self.steps, self.switches = bounds
        self.begin, self.again, self.most, self.wait = options

    def first(self):
        """Tell the first post."""
        return (0, first_stand(), -1, -1 if self.switches is None else self.switches)

    def is_post(self, thing):
        """Tell whether the thing is a post, whether or not a plan comes to it."""
        if not isinstance(thing, tuple) or len(thing) != 4:
            return False
        beat, stand, rate, left = thing
        return (
            is_whole(beat)
            and beat >= 0
            and is_stand(self.talk, stand, most=self.most, wait=self.wait)
            and is_asking(self.talk, stand, self.most)
            and self._can_be_last(rate, stand[0])
            and self._can_be_left(left)
        )

    def rates_let(self, post):
        """Tell the rates that the bounds let from a post."""
        _, _, last, left = post
        rates = range(self.talk.many_rates())
        return [rate for rate in rates if last in (-1, rate) or (left != 0 and self._is_near(last, rate))]

    def leads(self, post, rate):
        """Tell what a rate brings from a post, and the post that it leads to, None where that is the end."""
        beat, stand, last, left = post
        worths, change, stall, late = self.terms
        number = stand[0]
        behind, whole, stalled, ahead = self._fetch(beat, stand, rate)
        steps = 0 if last == -1 else abs(rate - last)
        brought = self.talk.lengths[number] * worths[rate] - change * steps - stall * stalled - late * ahead
        if number + 1 == len(self.talk.lengths):
            # All being whole the rest is played beat by beat, from the next one on.
            return (brought, None)
        left_then = left - 1 if left > 0 and steps > 0 else left
        asked, asking = self._play_for_room(behind, whole)
        return (brought, (asked, asking, rate, left_then))

    def _can_be_last(self, rate, fetched):
        if fetched == 0:
            return is_whole(rate) and rate == -1
        return is_rate(self.talk, rate)

    def _can_be_left(self, left):
        if not is_whole(left):
            return False
        return left == -1 if self.switches is None else 0 <= left <= self.switches

    def _is_near(self, last, rate):
        return self.steps is None or abs(rate - last) <= self.steps

    def _fetch(self, beat, stand, rate):
        """Tell the beat at which a stretch chosen there is whole, the stand then, and the beats till there:
        those of stalls, and those ahead of the one of the first play.

        While it is coming no more is kept, so play begins in its first beat or in none, and ends in a stall
        where the beats kept don't last.
        """
        number, _, _, kept, played, going = stand
        behind = self.road.fetched(beat, self.talk.sizes[number][rate], wait=self.wait)
        many = behind - beat
        plays = going == 1 or kept >= (self.begin if going == 0 else self.again)
        shown = min(kept, many) if plays else 0
        idle = many - shown
        if plays:
            going = 1 if idle == 0 else 2
        stalled = idle if going == 2 else 0
        whole = (number + 1, -1, 0, kept - shown + self.talk.lengths[number], played + shown, going)
        return (behind, whole, stalled, idle - stalled)

    def _play_for_room(self, beat, stand):
        """Tell the beat at which a stand, none coming, asks for the next stretch, and the stand then."""
        fetched, _, _, kept, played, _ = stand
        over = kept + self.talk.lengths[fetched] - self.most
        if over <= 0:
            return (beat, stand)
        # Want of room begins play, and no more is played than was too much.
        return (beat + over, (fetched, -1, 0, kept - over, played + over, 1))
