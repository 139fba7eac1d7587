"""Made-up claims of each kind: many of them just so, or not so by one."""

import random

import made_up
import made_views
import plain
import plain_dues
import plain_games
from suredue import clocks, settling
from support import put

WORDS = ("wait", "least", "due", "whole", "settled")

LATE = ("channel", (2, 3, 3), (4, 9, 6), 8)
LATE_PLAN = ((("close", "in", 0),), (), (), (), (("late", "in"),), (), (), ())
PLAIN = (1, 2, (None,), ((0, 0, (4, 6), ()),), (), (), ())
SHUT, LOCKED = (((0, 0, (6, 4), ()), 1, ()),), (0, 1, (5, 3), ((0, 2, ("image", 7), 9),))
ASKS, IMAGE = ((), (), ((7, 4),)), ("image", 7)
WISHES = (((1, ("pay", (0, 1), 4, IMAGE, (20, 10))), (3, ("leave", 0))), (), ())

WAIT = ("wait", 4, 3, 6)
LEAST = ("least", LATE, 4)
DUE = ("due", ((0, 1, 4, 6),), (1, 1, 1), PLAIN, 6)
WHOLE = ("whole", (0, 1, 2), WISHES, ASKS, ((0, 4), (4, 4), (4, 0)), IMAGE)
SETTLED = ("settled", ((0, 1, 6, 4),), (1, 1, 2), SHUT, 0, 2, (LOCKED,), 10)
TRUE = (WAIT, LEAST, DUE, WHOLE, SETTLED)
# The same ones by one too much.
FALSE = (
    ("wait", 4, 3, 5), ("least", LATE, 5), put(DUE, (4,), 7), put(WHOLE, (4,), ((0, 5), (4, 4), (4, 0))), put(SETTLED, (7,), 9),
)
AGAINST = ((1, (7,)), LATE_PLAN, (((0, 0, (4, 6), ()),), ()), ("gives", 0), (("close", LOCKED),))


def wait(make):
    delay, look = make.randint(1, 5), make.randint(1, 5)
    return ("wait", delay, look, max(clocks.least_wait(delay, look) + make.choice((0, -1, 1, 3)), 0))


def least(make):
    times = (make.randint(1, 3), make.randint(1, 2), make.randint(0, 3))
    if make.random() < 0.7:
        game = ("channel", times, tuple(make.randint(0, 6) for _ in range(make.randint(1, 3))), make.randint(0, 6))
    else:
        game = ("middle", times, make.randint(1, 3), make.randint(0, 4), make.randint(0, 2), make.randint(0, 4))
    return ("least", game, max(plain_games.least(game) + make.choice((0, 1, -1)), 0))


def due(make):
    net, times, view = made_views.view(make.randrange(10 ** 6))
    return ("due", net, times, view, max(plain_dues.due(net, times, view) + make.choice((0, 1, -1)), 0))


def wish(make):
    if make.random() < 0.3:
        return (make.randint(0, 9), ("leave", make.randint(0, 3)))
    route = tuple(make.randint(0, 3) for _ in range(make.randint(1, 2)))
    return (make.randint(0, 9), ("pay", route, make.randint(1, 3), ("image", make.choice((7, 8))), (40,) * len(route)))


def whole(make):
    many = make.randint(1, 4)
    steady = tuple(sorted(make.sample(range(many), make.randint(0, many))))
    wishes = tuple(tuple(wish(make) for _ in range(make.choice((0, 0, 1, 2)))) for _ in range(many))
    asks = tuple(tuple((make.choice((7, 8)), make.randint(1, 3)) for _ in range(make.choice((0, 0, 1)))) for _ in range(many))
    tallies = tuple((make.randint(0, 2), make.randint(0, 2)) for _ in range(many))
    return ("whole", steady, wishes, asks, tallies, ("image", 7))


def settled(make):
    seed = make.randrange(10 ** 5)
    _, net, times, _, sealed, ledger, channel, moment = made_up.closed_ledger(seed, last=12)
    by = settling.surely_by(ledger, times, channel, moment, sealed) + make.choice((0, -1, -1, 1))
    return ("settled", net, times, ledger, channel, moment, sealed, max(by, moment + 1))


def claim(seed, word=None):
    make = random.Random(seed)
    word = word or make.choice(WORDS)
    return {"wait": wait, "least": least, "due": due, "whole": whole, "settled": settled}[word](make)


def some_papers(make, thing):
    """Papers that might be against a claim, of which many are not."""
    word = thing[0]
    if word == "wait":
        moment = make.randint(1, 12)
        last = plain.last_coming((thing[2], 0, thing[1]), moment)
        return [(moment, (last,)), (moment, (last + 1,)), (1, (thing[1] + thing[2],)), (moment, ())]
    if word == "least":
        return [((),) * thing[1][-1], ((("close", "in", 0),),) + ((),) * (thing[1][-1] - 1)]
    if word == "due":
        return list(plain_dues.cases(*thing[1:4]))[:6]
    if word == "whole":
        return [(what, person) for what in ("gives", "asks") for person in range(len(thing[2]))]
    pages = [page for page in thing[6] if page[0] == thing[4]]
    return [()] + [(("close", page),) for page in pages] + [(("show", thing[4], own),) for own in (1, 2)]
