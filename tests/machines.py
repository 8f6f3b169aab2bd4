"""A machine of the tests' own: a talk on its way by hand, the beats that are kept being held one by one.

Told anew from the document's words; nothing of the package is used but what holds the fields.
"""

import copy

from rateplan.speeds import Speed


class Machine:
    """A talk on its way: it takes choices, beats and seeks, and holds what it can tell of them."""

    def __init__(self, talk, begin=4, again=8, most=30, wait=0):
        self.talk, self.begin, self.again, self.most, self.wait = talk, begin, again, most, wait
        self.spans, first = [], 0
        for beats in talk.lengths:
            self.spans.append(range(first, first + beats))
            first += beats
        self.all = first
        self.store = []          # the numbers of the beats that are kept
        self.stretch = 0         # the number of the one that is coming or comes next
        self.sought = 0          # the beats ahead of this one aren't kept when they come
        self.next = 0            # the beat that is played next
        self.rate = None         # that of the stretch that is coming
        self.away = self.here = self.gone = 0
        self.state = "begin"     # then "play" and "stall"
        self.last_rate = self.last_fetch = None
        self.rates, self.played, self.beats, self.thrown = [], [], 0, 0

    def copied(self):
        other = copy.copy(self)
        other.store, other.rates, other.played = self.store[:], self.rates[:], self.played[:]
        return other

    def asks(self):
        if self.rate is not None or self.stretch == len(self.spans):
            return False
        return len(self.store) + len(self.spans[self.stretch]) <= self.most

    def ended(self):
        return self.next == self.all

    def seen(self):
        return (self.stretch, len(self.store), self.last_rate, self.last_fetch)

    def told(self, chooser):
        """The rate that a chooser tells here."""
        if isinstance(chooser, tuple):
            return chooser[self.stretch]
        last = None if self.last_fetch is None else Speed(*self.last_fetch)
        told = chooser((*self.seen()[:3], last))
        return told if type(told) is int and told in range(len(self.talk.sizes[0])) else 0

    def choose(self, rate):
        self.rate = self.last_rate = rate
        self.rates.append(rate)
        self.away, self.here, self.gone = self.wait, 0, 0

    def beat(self, speed):
        """A beat goes by; told is the beat of the talk that is played, None of none."""
        enough = {"begin": self.begin, "stall": self.again}.get(self.state)
        no_room = self.rate is None and not self.asks()
        if enough is not None and (len(self.store) >= enough or self.stretch == len(self.spans) or no_room):
            self.state = "play"
        shown = None
        if self.state == "play" and self.store:
            shown = self.store.pop(0)
            self.played.append((self.beats, shown))
            self.next = shown + 1
        elif self.state == "play":
            self.state = "stall"
        self.beats += 1
        if self.rate is not None:
            self.come(speed)
        return shown

    def come(self, speed):
        self.gone += 1
        if self.away:
            self.away -= 1
        else:
            self.here += speed
        bits = self.talk.sizes[self.stretch][self.rate]
        if self.here >= bits:
            self.store += [beat for beat in self.spans[self.stretch] if beat >= self.sought]
            self.last_fetch = (bits, self.gone)
            self.stretch += 1
            self.rate = None
            self.here = self.gone = 0

    def seek(self, beat):
        self.state = "begin"
        coming = self.spans[self.stretch][0] if self.stretch < len(self.spans) else None
        if beat in self.store or beat == coming:
            left = [each for each in self.store if each >= beat]
            self.thrown += len(self.store) - len(left)
            self.store = left
        else:
            self.thrown += len(self.store)
            self.store, self.rate = [], None
            self.here = self.away = self.gone = 0
            self.stretch = [beat in span for span in self.spans].index(True)
        self.next = self.sought = beat

    def stand(self):
        coming, got = (-1, 0) if self.rate is None else (self.rate, self.here - self.away)
        going = {"begin": 0, "play": 1, "stall": 2}[self.state]
        return (self.stretch, coming, got, len(self.store), self.next, going)

    def watch(self, past):
        return (self.stand(), self.last_rate, self.last_fetch or (), self.gone, past)


def machine_of(talk, watch, options):
    """The machine that is as a watch tells."""
    (fetched, coming, got, kept, played, going), rate, last, went, _ = watch
    machine = Machine(talk, **options)
    machine.stretch, machine.next = fetched, played
    machine.store = list(range(played, played + kept))
    machine.rate = None if coming == -1 else coming
    machine.here, machine.away = max(got, 0), max(-got, 0)
    machine.gone, machine.last_rate, machine.last_fetch = went, rate, last or None
    machine.state = ("begin", "play", "stall")[going]
    return machine


def let(kind, road):
    """Whether a tuple of speeds is a road of the kind, each of its windows being counted anew."""
    slow, fast, many, wide = kind
    if [speed for speed in road if speed not in (slow, fast)]:
        return False
    return all(road[at:at + wide].count(slow) <= many for at in range(len(road)))


class Guard:
    """A talk, a chooser, a kind and options, and what the tests themselves tell of their stalls."""

    def __init__(self, talk, chooser, kind, options=None):
        self.talk, self.chooser, self.kind, self.options = talk, chooser, kind, options or {}
        self.slow, self.fast, self.many, self.wide = kind
        self.most, self.wait = self.options.get("most", 30), self.options.get("wait", 0)

    def first(self):
        machine = Machine(self.talk, **self.options)
        machine.choose(machine.told(self.chooser))
        return machine.watch((0,) * (self.wide - 1))

    def led(self, watch, speed):
        """None where the kind doesn't let the speed, else "stall", "end", or the watch that it leads to."""
        past = watch[4]
        marks = (*past, int(speed == self.slow))
        if sum(marks) > self.many and speed == self.slow:
            return None
        machine = machine_of(self.talk, watch, self.options)
        machine.beat(speed)
        if machine.state == "stall":
            return "stall"
        if machine.ended():
            return "end"
        if machine.asks():
            machine.choose(machine.told(self.chooser))
        return machine.watch(marks[len(marks) - len(past):])

    def told(self, limit=2000):
        """What never_stalls has to tell: a pair, or "too many"."""
        roads = {self.first(): ()}
        order = [self.first()]
        if limit < 1:
            return "too many"
        at = 0
        while at < len(order):
            for speed in (self.slow, self.fast):
                led = self.led(order[at], speed)
                if led == "stall":
                    return ("stalls", (*roads[order[at]], speed))
                if led not in (None, "end") and led not in roads:
                    if len(order) == limit:
                        return "too many"
                    roads[led] = (*roads[order[at]], speed)
                    order.append(led)
            at += 1
        return ("never", tuple(sorted(order)))

    def closed(self, watches):
        """The watches, with all that these lead to; None where that comes to a stall."""
        met, left = set(), list(watches)
        while left:
            watch = left.pop()
            if watch in met:
                continue
            met.add(watch)
            for speed in (self.slow, self.fast):
                led = self.led(watch, speed)
                if led == "stall":
                    return None
                if led not in (None, "end"):
                    left.append(led)
        return met

    def is_watch(self, thing):
        """Whether a thing is a right watch, in the document's words."""
        if type(thing) is not tuple or len(thing) != 5:
            return False
        stand, rate, last, went, past = thing
        rates = range(len(self.talk.sizes[0]))
        if not is_right_stand(self.talk, stand, self.most, self.wait):
            return False
        if type(rate) is not int or rate not in rates or stand[1] not in (-1, rate):
            return False
        machine = machine_of(self.talk, (stand, rate, (), 0, ()), self.options)
        if machine.asks() or machine.ended():
            return False
        if type(last) is not tuple or len(last) != (2 if stand[0] else 0):
            return False
        if not all(type(part) is int and part > 0 for part in last):
            return False
        if type(went) is not int or went < 0 or (went and stand[1] == -1):
            return False
        if type(past) is not tuple or len(past) != self.wide - 1:
            return False
        return all(type(mark) is int and mark in (0, 1) for mark in past) and sum(past) <= self.many

    def holds(self, thing):
        """Whether a thing is a paper."""
        if type(thing) is not tuple or not all(self.is_watch(part) for part in thing):
            return False
        if sorted(set(thing)) != list(thing) or self.first() not in thing:
            return False
        leads = [self.led(watch, speed) for watch in thing for speed in (self.slow, self.fast)]
        return all(led in (None, "end") or led in thing for led in leads)

    def stalls(self, thing):
        """Whether a thing is a road of the kind whose last beat, and no sooner one, is one of a stall."""
        if type(thing) is not tuple or not all(type(speed) is int for speed in thing) or not let(self.kind, thing):
            return False
        machine = Machine(self.talk, **self.options)
        for at, speed in enumerate(thing):
            if machine.ended():
                return False
            if machine.asks():
                machine.choose(machine.told(self.chooser))
            machine.beat(speed)
            if machine.state == "stall":
                return at == len(thing) - 1
        return False


def is_right_stand(talk, thing, most, wait):
    """Whether a thing is a right stand, in the document's words."""
    if type(thing) is not tuple or [type(part) for part in thing] != [int] * 6:
        return False
    fetched, coming, got, kept, played, going = thing
    if fetched not in range(len(talk.lengths) + 1) or kept not in range(most + 1) or played < 0:
        return False
    if kept + played != sum(talk.lengths[:fetched]):
        return False
    if coming == -1:
        right = got == 0
    else:
        right = (fetched < len(talk.lengths) and coming in range(len(talk.sizes[0]))
                 and got in range(-wait, talk.sizes[fetched][coming]))
    return right and going in ((0,) if played == 0 else (1, 2))
