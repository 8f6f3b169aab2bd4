"""Checks of best plans: what a paper of worths, whoever wrote it, shows."""

from rateplan.options import AGAIN, BEGIN, MOST
from rateplan.posts import Posts
from rateplan.rooms import check_room
from rateplan.wholes import is_whole


def shown_worth(
    talk, road, terms, thing, *, steps=None, switches=None, begin=BEGIN, again=AGAIN, most=MOST, wait=0
):
    """Tell what worth the thing shows that no plan is above, None where it is no paper; NoRoom ahead of all else."""
    check_room(talk, most)
    posts = Posts(talk, road, terms, (steps, switches), (begin, again, most, wait))
    if not _is_list_of_posts(posts, thing):
        return None
    numbers = {post: number for post, number in thing}
    if posts.first() not in numbers:
        return None
    for post in numbers:
        if not _holds_at(posts, numbers, post):
            return None
    return numbers[posts.first()]


def _is_list_of_posts(posts, thing):
    """Tell whether the thing is a tuple of (post, number), the posts rising, each once."""
    if not isinstance(thing, tuple):
        return False
    if not all([_is_entry(posts, entry) for entry in thing]):
        return False
    return all([one[0] < other[0] for one, other in zip(thing, thing[1:])])


def _is_entry(posts, thing):
    return isinstance(thing, tuple) and len(thing) == 2 and posts.is_post(thing[0]) and is_whole(thing[1])


def _holds_at(posts, numbers, post):
    """Tell whether what each rate leads to is there, and no rate brings more than the post's number."""
    for rate in posts.rates_let(post):
        brought, led = posts.leads(post, rate)
        if led is not None and led not in numbers:
            return False
        if numbers[post] < (brought if led is None else brought + numbers[led]):
            return False
    return True
