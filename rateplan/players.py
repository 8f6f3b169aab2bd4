"""Players: a talk that is chosen, fetched and played deed by deed, and sought in."""

from rateplan.beats import is_asking, is_ended
from rateplan.errors import NoBeat, NoPace, NoRate, NotNow
from rateplan.options import AGAIN, BEGIN, MOST
from rateplan.rooms import check_room
from rateplan.states import behind_choice, behind_speed, first_state, told_rate
from rateplan.wholes import is_count, is_rate


class Player:
    """A player of a talk: its deeds choose, beat, over, seek and skip have a note each, whether done or refused."""

    def __init__(self, talk, *, begin=BEGIN, again=AGAIN, most=MOST, wait=0):
        check_room(talk, most)
        self._talk = talk
        self._begin = begin
        self._again = again
        self._most = most
        self._wait = wait
        self._state = first_state()
        self._gone_by = 0
        self._thrown = 0
        self._notes = []

    def choose(self, rate):
        """Choose a rate for the stretch that comes next; NotNow where none is asked for, then NoRate."""
        if not self._asks():
            self._note("choose", "NotNow")
            raise NotNow(self.stand_now())
        if not is_rate(self._talk, rate):
            self._note("choose", "NoRate")
            raise NoRate(rate)
        self._state = behind_choice(self._state, rate, self._wait)
        self._note("choose", "done")

    def beat(self, speed):
        """Let a beat go by, and tell the beat of the talk that was played, None of none; NotNow, then NoPace."""
        if self._asks() or self._is_over():
            self._note("beat", "NotNow")
            raise NotNow(self.stand_now())
        if not is_count(speed):
            self._note("beat", "NoPace")
            raise NoPace(speed)
        played = self.stand_now()[4]
        self._go(speed)
        self._note("beat", "done")
        return played if self.stand_now()[4] > played else None

    def over(self, speeds, *, rule=None):
        """Let beats of these speeds go by till the talk is ended, and tell how many did; NoPace of the first wrong one.

        The rule tells the rates, without one each is 0.
        """
        many = 0
        for speed in speeds:
            if self._is_over():
                break
            if not is_count(speed):
                self._note("over", "NoPace")
                raise NoPace(speed)
            if self._asks():
                rate = 0 if rule is None else told_rate(self._talk, rule, self._state)
                self._state = behind_choice(self._state, rate, self._wait)
            self._go(speed)
            many += 1
        self._note("over", "done")
        return many

    def seek(self, beat):
        """Go to a beat of the talk, keeping what is of use there; NoBeat of none."""
        try:
            stretch, _ = self._talk.place(beat)
        except NoBeat:
            self._note("seek", "NoBeat")
            raise
        self._go_to(stretch, beat)
        self._note("seek", "done")

    def skip(self):
        """Go to the first beat behind the stretch that is played next; NotNow of the last one, or at the end."""
        behind = self._stretch_behind()
        if behind is None:
            self._note("skip", "NotNow")
            raise NotNow(self.stand_now())
        self._go_to(behind, sum(self._talk.lengths[:behind]))
        self._note("skip", "done")

    def stand_now(self):
        """Tell the stand: the stretch that comes next in place of how many are whole, the beat that is played next."""
        return self._state[0]

    def gone_by(self):
        """Tell how many beats went by."""
        return self._gone_by

    def thrown(self):
        """Tell how many kept beats seeks and skips threw."""
        return self._thrown

    def notes(self):
        """Tell of each deed its word, and `done` or the name of what it was refused with."""
        return tuple(self._notes)

    def _asks(self):
        return is_asking(self._talk, self.stand_now(), self._most)

    def _is_over(self):
        return is_ended(self._talk, self.stand_now())

    def _stretch_behind(self):
        """Tell the stretch behind that of the beat that is played next, None where there is none."""
        if self._is_over():
            return None
        stretch, _ = self._talk.place(self.stand_now()[4])
        return stretch + 1 if stretch + 1 < len(self._talk.lengths) else None

    def _note(self, word, told):
        self._notes.append((word, told))

    def _go(self, speed):
        self._state = behind_speed(self._talk, self._state, speed, self._begin, self._again, self._most)
        self._gone_by += 1

    def _go_to(self, stretch, beat):
        """Play a beat of a stretch next, and throw what is of no use then."""
        (fetched, coming, got, kept, played, _), rate, last, went = self._state
        if self._is_at_hand(beat):
            # Ahead of the beat that is played next nothing is kept, so nothing is thrown on the way back there.
            thrown = max(0, beat - played)
            self._state = ((fetched, coming, got, kept - thrown, beat, 0), rate, last, went)
        else:
            thrown = kept
            self._state = ((stretch, -1, 0, 0, beat, 0), rate, last, 0)
        self._thrown += thrown

    def _is_at_hand(self, beat):
        """Tell whether a beat is kept, or is the first one of the stretch that is coming or comes next."""
        fetched, _, _, kept, played, _ = self.stand_now()
        # Where nothing comes next, what would be its first beat is none of the talk.
        return played <= beat < played + kept or beat == sum(self._talk.lengths[:fetched])
