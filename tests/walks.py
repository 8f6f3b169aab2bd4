"""Walks of the tests' own: a talk gone through beat by beat, told anew from the document's words.

Nothing of the package is used but what holds the fields, so that both tell the same only where both are right.
"""

import random

from rateplan.roads import Road
from rateplan.speeds import Speed
from rateplan.talks import Talk


def speeds_of(road, many):
    """The speeds of the first so many beats, from the pieces alone."""
    told = []
    for beats, speed in road.pieces:
        told += [speed] * min(beats, many - len(told))
    return told + [road.pieces[-1][1]] * (many - len(told))


class Walk:
    """A talk gone through till its end, the beats that are kept being held one by one."""

    def __init__(self, talk, road, chooser, begin=4, again=8, most=30, wait=0, opens=None):
        self.talk, self.chooser, self.wait = talk, chooser, wait
        self.opens = opens or (0,) * len(talk.lengths)
        self.rates, self.begun, self.whole, self.plays, self.stalls = [], [], [], [], []
        self.kept, self.stands, self.seen, self.played = [], [], [], []
        self.store = []         # the numbers of the beats that are kept
        self.rate = None        # that of the stretch that is coming
        self.away = 0           # beats that go by ahead of its first bits
        self.here = 0           # its bits that are here
        self.state = "begin"    # then "play" and "stall"
        self.beat = 0
        speeds = []
        while len(self.played) < sum(talk.lengths):
            if self.beat == len(speeds):
                speeds = speeds_of(road, 2 * len(speeds) + 100)
            self.one_beat(speeds[self.beat], begin, again, most)
        self.ended = self.beat

    def one_beat(self, speed, begin, again, most):
        done = len(self.whole)
        wanted = self.talk.lengths[done] if done < len(self.talk.lengths) else None
        room = wanted is not None and len(self.store) + wanted <= most
        if self.rate is None and room and self.beat >= self.opens[done]:
            self.choose(done)
        self.stands.append(self.stand())
        ready = {"begin": len(self.store) >= begin, "stall": len(self.store) >= again, "play": False}[self.state]
        if ready or wanted is None or (self.rate is None and not room):
            self.state = "play"
        if self.state == "play":
            if self.store:
                self.played.append(self.store.pop(0))
                self.plays.append(self.beat)
            else:
                self.state = "stall"
        if self.rate is not None:
            self.come(done, speed)
        if self.state == "stall":
            self.stalls.append(self.beat)
        self.kept.append(len(self.store))
        self.beat += 1

    def choose(self, done):
        if isinstance(self.chooser, tuple):
            self.rate = self.chooser[done]
        else:
            last = None
            if done:
                last = (self.talk.sizes[done - 1][self.rates[-1]], self.whole[-1] - self.begun[-1])
            seen = (done, len(self.store), self.rates[-1] if done else None, last)
            self.seen.append(seen)
            told = self.chooser(seen[:3] + (None if last is None else Speed(*last),))
            self.rate = told if type(told) is int and told in range(len(self.talk.sizes[0])) else 0
        self.rates.append(self.rate)
        self.begun.append(self.beat)
        self.away, self.here = self.wait, 0

    def come(self, done, speed):
        if self.away:
            self.away -= 1
            return
        self.here += speed
        if self.here >= self.talk.sizes[done][self.rate]:
            first = sum(self.talk.lengths[:done])
            self.store += range(first, first + self.talk.lengths[done])
            self.whole.append(self.beat + 1)
            self.rate, self.here = None, 0

    def stand(self):
        coming = -1 if self.rate is None else self.rate
        got = 0 if self.rate is None else self.here - self.away
        going = {"begin": 0, "play": 1, "stall": 2}[self.state]
        return (len(self.whole), coming, got, len(self.store), len(self.played), going)

    def spans(self):
        """The stalls: each one's first beat, and how many."""
        told = []
        for beat in self.stalls:
            if told and told[-1][0] + told[-1][1] == beat:
                told[-1] = (told[-1][0], told[-1][1] + 1)
            else:
                told.append((beat, 1))
        return tuple(told)

    def fields(self):
        """What a Run has to tell of this walk."""
        return {
            "rates": tuple(self.rates), "begun": tuple(self.begun), "whole": tuple(self.whole),
            "plays": tuple(self.plays), "stalls": self.spans(), "ended": self.ended, "kept": tuple(self.kept),
        }


def some_talk(dice, stretches, rates, beats, bits):
    """A talk of so many stretches and rates, of up to so many beats and bits."""
    return Talk(
        tuple(dice.randint(1, beats) for _ in range(stretches)),
        tuple(tuple(dice.randint(1, bits) for _ in range(rates)) for _ in range(stretches)),
    )


def some_road(dice, pieces, beats, speed):
    """A road of up to so many pieces, of up to so many beats and such speeds, noughts among them."""
    told = [(dice.randint(1, beats), dice.choice((0, dice.randint(0, speed)))) for _ in range(dice.randint(0, pieces - 1))]
    return Road((*told, (dice.randint(1, beats), dice.randint(1, speed))))


def some_options(dice, talk, upto):
    """Options that have room for each stretch of the talk."""
    longest = max(talk.lengths)
    return {
        "begin": dice.randint(1, upto), "again": dice.randint(1, upto),
        "most": dice.choice((longest, longest + dice.randint(0, upto))), "wait": dice.choice((0, 0, dice.randint(0, 5))),
    }


def some_plan(dice, talk):
    """A plan of the talk."""
    return tuple(dice.randrange(talk.many_rates()) for _ in talk.lengths)


def some_walks(seed, many):
    """So many (talk, road, plan, options), the same ones for the same seed."""
    dice = random.Random(seed)
    told = []
    for _ in range(many):
        talk = some_talk(dice, dice.randint(1, 6), dice.randint(1, 4), dice.choice((2, 6, 20)), dice.choice((5, 40)))
        road = some_road(dice, dice.randint(1, 12), 12, dice.choice((2, 8, 50)))
        told.append((talk, road, some_plan(dice, talk), some_options(dice, talk, dice.choice((3, 12, 40)))))
    return told
