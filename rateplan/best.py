"""Best plans: a plan whose run is worth most, and a paper of it."""

from rateplan.options import AGAIN, BEGIN, MOST
from rateplan.posts import Posts
from rateplan.rooms import check_room


def best_plan(talk, road, terms, *, steps=None, switches=None, begin=BEGIN, again=AGAIN, most=MOST, wait=0):
    """Tell a plan within the bounds whose run is worth most, and a paper of its worth; NoRoom ahead of all else."""
    check_room(talk, most)
    posts = Posts(talk, road, terms, (steps, switches), (begin, again, most, wait))
    ways = _ways_from_first(posts)
    numbers = {}
    choices = {}
    # From the end on, so that what a post leads to has its number already.
    for post in reversed(list(ways)):
        rate, number, led = _best_way(ways[post], numbers)
        numbers[post] = number
        choices[post] = (rate, led)
    return (_followed(posts.first(), choices), tuple(sorted(numbers.items())))


def _ways_from_first(posts):
    """Tell, for each post that a plan comes to, the ways on: (rate, what it brings, the post it leads to).

    They stand in the order in which they are come to, so each one ahead of all that it leads to.
    """
    ways = {}
    reached = {posts.first(): True}
    while reached:
        ahead = {}
        for post in reached:
            ways[post] = []
            for rate in posts.rates_let(post):
                brought, led = posts.leads(post, rate)
                ways[post].append((rate, brought, led))
                if led is not None:
                    ahead[led] = True
        reached = ahead
    return ways


def _best_way(ways, numbers):
    """Tell the first best of the ways on: its rate, its number to the end, and the post it leads to."""
    found = None
    for rate, brought, led in ways:
        number = brought if led is None else brought + numbers[led]
        if found is None or number > found[1]:
            found = (rate, number, led)
    return found


def _followed(first, choices):
    """Tell the plan of what is chosen from the first post on."""
    plan = []
    post = first
    while post is not None:
        rate, post = choices[post]
        plan.append(rate)
    return tuple(plan)
