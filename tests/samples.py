"""What several tests hand in: talks of many shapes, and things of any kind."""

from rateplan.talks import Talk


def sample_talks():
    """Talks from the least one to one at each bound, made anew with each call."""
    return [
        Talk((1,), ((1,),)),
        Talk((20,), ((1000, 1000, 1000, 1000),)),
        Talk((4, 2), ((10, 25), (6, 12))),
        Talk((3, 1, 5), ((4, 7, 9), (1, 2, 3), (12, 10, 8))),
        Talk((2, 2, 2, 2), ((5,), (5,), (5,), (5,))),
        Talk(
            tuple(range(9, 21)),
            tuple((k, 10 * k, 100, 1000) for k in range(1, 13)),
        ),
    ]


def deep_list():
    """A list thirty deep."""
    deep = []
    for _ in range(29):
        deep = [deep]
    return deep


def things_of_any_kind():
    """Things that are neither whole numbers nor texts, made anew with each call."""
    return [
        True, False, None,
        (), (0,), (0, 0), (1, (2, "a", None)), (True,),
        [], [0], [1, [2]], deep_list(), [0] * 20000,
        {}, {0: 0}, {"lengths": (1,), "sizes": ((1,),)}, {(1, 2): [3]},
        Talk((1,), ((1,),)), Talk((4, 2), ((10, 25), (6, 12))),
    ]


def changed_parts(thing):
    """The thing with each of its parts, those of parts too, in turn of another kind, left out, or twice."""
    if type(thing) is int:
        return [True, False, None, "", str(thing), (thing,), [thing], {}]
    told = [list(thing), thing + (0,), (thing,), None]
    for at, part in enumerate(thing):
        told.append(thing[:at] + thing[at + 1:])
        told += [thing[:at] + (other,) + thing[at + 1:] for other in changed_parts(part)]
    return told
