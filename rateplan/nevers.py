"""Whether a chooser ever stalls over a road of a kind: a paper that it never does, or a road that stalls it."""

from rateplan.errors import TooMany
from rateplan.options import AGAIN, BEGIN, LIMIT, MOST
from rateplan.rooms import check_room
from rateplan.watches import Watches


def never_stalls(talk, chooser, kind, *, limit=LIMIT, begin=BEGIN, again=AGAIN, most=MOST, wait=0):
    """Tell ("never", paper) or ("stalls", road); NoRoom ahead of all else, TooMany of more watches than limit."""
    check_room(talk, most)
    watches = Watches(talk, chooser, kind, (begin, again, most, wait))
    # For each watch the one it was first come to from, and by which speed. Gone through as they are come to,
    # slow ahead of fast, so that the first stall met has the least road.
    ways = {}
    _add_way(ways, watches.first(), None, limit)
    reached = list(ways)
    while reached:
        ahead = []
        for watch in reached:
            for speed in watches.speeds_let(watch):
                stalls, led = watches.leads(watch, speed)
                if stalls:
                    return ("stalls", (*_road_to(ways, watch), speed))
                if led is not None and led not in ways:
                    _add_way(ways, led, (watch, speed), limit)
                    ahead.append(led)
        reached = ahead
    return ("never", tuple(sorted(ways)))


def _add_way(ways, watch, way, limit):
    """Note how a watch was come to; TooMany where it is one more than limit."""
    if len(ways) >= limit:
        raise TooMany(limit)
    ways[watch] = way


def _road_to(ways, watch):
    """Tell the speeds by which a watch was come to."""
    speeds = []
    way = ways[watch]
    while way is not None:
        ahead, speed = way
        speeds.append(speed)
        way = ways[ahead]
    return tuple(speeds[::-1])
