"""Rules: functions that tell a rate by what they are shown of a run."""

from rateplan.options import PART
from rateplan.wholes import is_whole


def by_store(steps):
    """Tell the rule by which each step that the beats kept come up to is one rate more."""
    def rule(seen):
        kept = seen[1]
        return len([step for step in steps if step <= kept])
    return rule


def by_speed(talk, *, part=PART):
    """Tell the rule of the greatest rate at which, by a part of the last speed, a stretch comes in time."""
    top, bottom = part
    lengths = talk.lengths
    sizes = talk.sizes

    def rule(seen):
        number, _, _, speed = seen
        if speed is None:
            return 0
        # Multiplied out, so that nothing is rounded, and a speed of no bits is in no one's way.
        room = top * speed.bits * lengths[number]
        in_time = [rate for rate, bits in enumerate(sizes[number]) if bits * bottom * speed.beats <= room]
        return max(in_time, default=0)
    return rule


def calm(rule):
    """Tell the rule that follows another one by at most one step from the rate chosen last."""
    def calmed(seen):
        told = rule(seen)
        last = seen[2]
        number = told if is_whole(told) else 0
        if last is None:
            return number
        return max(last - 1, min(last + 1, number))
    return calmed
