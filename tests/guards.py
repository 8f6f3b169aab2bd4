"""Cases of choosers and kinds that several tests go through."""

from rateplan.talks import Talk
from tests.machines import Guard
from tests.walks import some_options, some_plan, some_talk


def some_rule(dice, rates):
    """A rule that sees the beats kept, the last rate, the last fetch, the number, or some of these."""
    by, edge = dice.randint(0, 4), dice.randint(0, 5)

    def by_kept(seen):
        return rates - 1 if seen[1] > edge else 0

    def by_rate(seen):
        return 0 if seen[2] is None else (seen[2] + 1) % rates

    def by_fetch(seen):
        return 0 if seen[3] is None else min(rates - 1, seen[3].bits // seen[3].beats)

    def by_all(seen):
        told = seen[0] + seen[1] + (seen[2] or 0)
        return (told + (0 if seen[3] is None else seen[3].beats)) % rates

    def by_none(seen):
        # Nothing of this is a rate, so rate 0 is taken.
        return (None, True, rates, -1, "0")[edge % 5]

    return (by_kept, by_rate, by_fetch, by_all, by_none)[by]


def some_kind(dice, upto, wide=4):
    """A kind of speeds of up to so many bits."""
    slow = dice.choice((0, dice.randint(0, upto - 1)))
    wide = dice.randint(1, wide)
    return (slow, dice.randint(slow + 1, upto), dice.randint(0, wide - 1), wide)


def some_guards(dice, many, stretches=3, rates=3, beats=4, bits=12, wide=4):
    """So many cases of small talks, plans and rules, kinds, and options of all sorts."""
    told = []
    for _ in range(many):
        talk = some_talk(dice, dice.randint(1, stretches), dice.randint(1, rates), beats, bits)
        chooser = some_plan(dice, talk)
        if dice.random() < 0.6:
            chooser = some_rule(dice, talk.many_rates())
        options = {} if dice.random() < 0.2 else some_options(dice, talk, dice.choice((2, 5)))
        told.append(Guard(talk, chooser, some_kind(dice, dice.choice((3, 8)), wide), options))
    return told


def a_guard(**options):
    """Three stretches at two rates by a plan that never stalls over this kind."""
    return Guard(Talk((3, 2, 2), ((4, 9), (3, 7), (2, 8))), (0, 0, 0), (1, 3, 1, 3), options)


def guards_by_hand():
    """Such as never stall, with few watches each."""
    talk = Talk((3, 2, 2), ((4, 9), (3, 7), (2, 8)))
    return [
        a_guard(),
        Guard(talk, (0, 0, 0), (2, 3, 0, 1), {"begin": 3, "again": 2, "most": 4, "wait": 0}),
        Guard(talk, lambda seen: 1 if seen[1] > 2 else 0, (0, 9, 1, 2), {"begin": 2, "most": 5}),
        Guard(talk, lambda seen: 0 if seen[3] is None else seen[3].bits // 3 % 2, (1, 5, 2, 5), {"wait": 1, "begin": 7}),
        Guard(Talk((2,), ((5, 6),)), (1,), (0, 2, 3, 6), {}),
    ]


def some_watches(dice, guard, many):
    """So many right watches, most of which no road comes to."""
    told, talk = [], guard.talk
    while len(told) < many:
        fetched = dice.randint(0, len(talk.lengths))
        whole = sum(talk.lengths[:fetched])
        played = dice.randint(0, whole)
        rate = dice.randrange(len(talk.sizes[0]))
        coming = rate if fetched < len(talk.lengths) and dice.random() < 0.8 else -1
        got = dice.randint(-guard.wait, talk.sizes[fetched][rate] - 1) if coming != -1 else 0
        stand = (fetched, coming, got, whole - played, played, dice.choice((1, 2)) if played else 0)
        last = (dice.choice((1, 7, 10 ** 30)), dice.randint(1, 40)) if fetched else ()
        went = dice.choice((0, 3, 10 ** 30)) if coming != -1 else 0
        past = tuple(dice.choice((0, 0, 1)) for _ in range(guard.wide - 1))
        watch = (stand, rate, last, went, past)
        if guard.is_watch(watch):
            told.append(watch)
    return told
