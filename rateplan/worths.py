"""Worths: what a run is worth by terms, and the bounds of a plan's steps and switches."""


def worth_of(talk, run, terms):
    """Tell the worth of a run of the talk by terms (worths, change, stall, late)."""
    worths, change, stall, late = terms
    earned = sum([beats * worths[rate] for beats, rate in zip(talk.lengths, run.rates)])
    stalled = sum([many for _, many in run.stalls])
    # Beats are numbered from 0, so the number of the first play's is how many there are ahead of it.
    return earned - change * sum(_steps_of(run.rates)) - stall * stalled - late * run.plays[0]


def in_bounds(plan, *, steps=None, switches=None):
    """Tell whether a plan keeps to at most so many steps of rate at once, and so many switches; None: any."""
    taken = _steps_of(plan)
    if steps is not None and max(taken, default=0) > steps:
        return False
    return switches is None or len([step for step in taken if step > 0]) <= switches


def _steps_of(plan):
    """Tell the steps of rate between each stretch and the next one."""
    return [abs(rate - last) for last, rate in zip(plan, plan[1:])]
