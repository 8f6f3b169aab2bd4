"""Posts and papers of the tests' own hand: each leg gone beat by beat, each paper checked word by word."""

import itertools

from rateplan.runs import run_of
from rateplan.stands import asks, chosen, first_stand, gone, is_stand
from rateplan.worths import in_bounds, worth_of
from tests.walks import some_options, some_road, some_talk


class Case:
    """A talk, a road, terms, bounds and options, and what the tests themselves tell of them."""

    def __init__(self, talk, road, terms, bounds=None, options=None):
        self.talk, self.road, self.terms = talk, road, terms
        self.bounds = bounds or {}
        self.options = options or {}
        self.steps = self.bounds.get("steps")
        self.switches = self.bounds.get("switches")
        self.most = self.options.get("most", 30)
        self.wait = self.options.get("wait", 0)
        self.named = {**self.bounds, **self.options}
        self.gone_named = {name: worth for name, worth in self.options.items() if name != "wait"}

    def first(self):
        return (0, first_stand(), -1, -1 if self.switches is None else self.switches)

    def plans(self):
        """All plans within the bounds."""
        every = itertools.product(range(len(self.talk.sizes[0])), repeat=len(self.talk.lengths))
        return [plan for plan in every if in_bounds(plan, **self.bounds)]

    def worth(self, plan):
        return worth_of(self.talk, run_of(self.talk, self.road, plan, **self.options), self.terms)

    def best(self):
        """The greatest worth of all plans within the bounds, gone through one by one."""
        return max(self.worth(plan) for plan in self.plans())

    def led(self, post, rate):
        """What a rate brings from a post, and the post it leads to, None at the end; None where it isn't let."""
        beat, stand, last, left = post
        worths, change, stall, late = self.terms
        steps = abs(rate - last) if last != -1 else 0
        if steps and (left == 0 or self.steps is not None and steps > self.steps):
            return None
        if steps and left > 0:
            left -= 1
        brought = self.talk.lengths[stand[0]] * worths[rate] - change * steps
        stand = chosen(stand, rate, wait=self.wait)
        while stand[4] < len(self.talk) and not asks(self.talk, stand, most=self.most):
            # One that was let go for long is a long piece of one speed: its beats are all alike.
            stand = gone(self.talk, stand, self.road.speed_at(beat), **self.gone_named)
            beat += 1
            brought -= stall if stand[5] == 2 else late if stand[5] == 0 else 0
        if stand[4] == len(self.talk):
            return (brought, None)
        return (brought, (beat, stand, rate, left))

    def ways(self, post):
        told = [self.led(post, rate) for rate in range(len(self.talk.sizes[0]))]
        return [way for way in told if way is not None]

    def numbers(self, more=()):
        """The least numbers that hold, for all posts that plans, and those handed in more, come to."""
        ways = {}
        left = [self.first(), *more]
        while left:
            post = left.pop()
            if post not in ways:
                ways[post] = self.ways(post)
                left += [led for _, led in ways[post] if led is not None]
        numbers = {}
        for post in sorted(ways, key=lambda each: -each[1][0]):
            numbers[post] = max(brought + (0 if led is None else numbers[led]) for brought, led in ways[post])
        return numbers

    def paper(self, more=()):
        return paper_of(self.numbers(more))

    def is_post(self, thing):
        if type(thing) is not tuple or len(thing) != 4:
            return False
        beat, stand, rate, left = thing
        if [type(part) for part in (beat, rate, left)] != [int] * 3 or beat < 0:
            return False
        if not is_stand(self.talk, stand, most=self.most, wait=self.wait):
            return False
        if not asks(self.talk, stand, most=self.most):
            return False
        rates = range(len(self.talk.sizes[0])) if stand[0] else (-1,)
        return rate in rates and left in ((-1,) if self.switches is None else range(self.switches + 1))

    def shown(self, thing):
        """What a thing shows, None where it is no paper."""
        if type(thing) is not tuple:
            return None
        for entry in thing:
            if type(entry) is not tuple or len(entry) != 2 or not self.is_post(entry[0]) or type(entry[1]) is not int:
                return None
        posts = [post for post, _ in thing]
        if sorted(set(posts)) != posts or self.first() not in posts:
            return None
        numbers = dict(thing)
        for post in posts:
            for brought, led in self.ways(post):
                if led is not None and led not in numbers:
                    return None
                if numbers[post] < brought + (0 if led is None else numbers[led]):
                    return None
        return numbers[self.first()]

    def some_posts(self, dice, many):
        """So many right posts, of any beat, most of which no plan comes to."""
        told = []
        while len(told) < many:
            fetched = dice.randrange(len(self.talk.lengths))
            whole = sum(self.talk.lengths[:fetched])
            played = dice.randint(0, whole)
            stand = (fetched, -1, 0, whole - played, played, dice.choice((1, 2)) if played else 0)
            rate = dice.randrange(len(self.talk.sizes[0])) if fetched else -1
            left = -1 if self.switches is None else dice.randint(0, self.switches)
            post = (dice.randint(0, 60), stand, rate, left)
            if self.is_post(post):
                told.append(post)
        return told


def paper_of(numbers):
    return tuple(sorted(numbers.items()))


def some_terms(dice, rates):
    """Terms of nought, small ones, and ones as great as they may be."""
    much = dice.choice((0, 3, 20, 10 ** 6))
    edge = dice.choice((True, False))
    worths = tuple(dice.choice((-much, much)) if edge else dice.randint(-much, much) for _ in range(rates))
    return (worths, *(dice.choice((0, much, dice.randint(0, much))) for _ in range(3)))


def some_cases(dice, many, stretches=4, rates=3):
    """So many cases of small talks and roads, options and bounds of all sorts."""
    told = []
    for _ in range(many):
        talk = some_talk(dice, dice.randint(1, stretches), dice.randint(1, rates), dice.choice((2, 6)), dice.choice((6, 30)))
        road = some_road(dice, 6, 8, dice.choice((2, 6)))
        bounds = {"steps": dice.choice((None, 0, 1, 2)), "switches": dice.choice((None, 0, 1, 2))}
        if dice.random() < 0.3:
            bounds = {}
        options = some_options(dice, talk, dice.choice((3, 12)))
        told.append(Case(talk, road, some_terms(dice, talk.many_rates()), bounds, options))
    return told
