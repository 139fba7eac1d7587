"""Made-up worlds, and a made-up rest that closes with elder sheets, lies, holds, loses and doubles letters."""

import random

from suredue import clocks, worlds
from suredue.errors import Unfit
from suredue.ledger import is_settled
from suredue.offers import changed, in_turn
from suredue.routes import is_route

SECRETS = (1, 2, 3, 4)


def maker(seed):
    return random.Random(seed)


def net(make, people, channels):
    made = []
    for _ in range(channels):
        one, other = make.sample(range(people), 2)
        made.append((one, other, make.randint(0, 6), make.randint(0, 6)))
    return tuple(made)


def route(make, of, payer):
    """A made-up route from payer; None if there is none."""
    found = [way for many in range(1, 4) for way in ways(len(of), many) if is_route(of, payer, way)]
    return make.choice(found) if found else None


def ways(channels, many):
    if many == 0:
        return [()]
    return [way + (channel,) for way in ways(channels, many - 1) for channel in range(channels)]


def wishes(make, of, times, person, leave):
    """Some payments, and all channels of person left at leave."""
    made = []
    for _ in range(make.randint(0, 2)):
        way = route(make, of, person)
        if way is not None:
            ends = clocks.least_ends(times, len(way), make.randint(8, 40))
            ends = tuple(end + make.choice((0, 0, 0, 5, -1)) for end in ends)
            made.append((make.randint(0, 12), ("pay", way, make.randint(1, 3), ("image", make.choice(SECRETS)), ends)))
    return tuple(made) + tuple((leave, ("leave", own)) for own in range(len(of)) if person in of[own][:2])


def begun(seed, many_steady=None, leave=40, care=0):
    """A maker and what begun_world takes: enough wait, all steady ones leave all at last."""
    make = maker(seed)
    of = net(make, make.randint(2, 4), make.randint(1, 4))
    if make.random() < 0.3:
        # One between two others.
        of = ((1, 0, make.randint(1, 6), make.randint(0, 3)), (0, 2, make.randint(1, 6), make.randint(0, 3)))
    here = sorted(set(own for part in of for own in part[:2]))
    steady = tuple(sorted(make.sample(here, min(len(here), many_steady or make.randint(1, len(here))))))
    delay, look = make.randint(1, 3), make.randint(1, 3)
    times = (delay, look, clocks.least_wait(delay, look) + make.choice((0, 0, 3)))
    every = range(max(here) + 1)
    asks = tuple(tuple((secret, make.randint(0, 3)) for secret in SECRETS if make.random() < 0.35) for _ in every)
    wanted = tuple(wishes(make, of, times, own, leave) if own in steady else () for own in every)
    cares = tuple(tuple(make.randint(0, care) for _ in range(3)) for _ in every)
    return make, (of, times, steady, wanted, asks, cares)


def payment(seed):
    """Like begun: 0 pays over a row of people, some of them steady ones, beside which the rest has channels, too."""
    make = maker(seed)
    many, image = make.randint(1, 3), ("image", 1)
    delay, look = make.randint(1, 2), make.randint(1, 2)
    times = (delay, look, clocks.least_wait(delay, look))
    row = [(own, own + 1, make.randint(3, 9), make.randint(0, 4)) for own in range(many)]
    beside = [(make.randint(0, many), many + 1, make.randint(0, 5), make.randint(0, 5)) for _ in range(make.randint(0, 2))]
    # Each channel stands either way.
    of = tuple(make.choice((own, (own[1], own[0], own[3], own[2]))) for own in row + beside)
    steady = tuple(own for own in range(many + 1) if make.random() < 0.8) or (0,)
    ends = clocks.least_ends(times, many, 34 * look)
    ends = tuple(end + 4 * look * (many - at) for at, end in enumerate(ends)) if make.random() < 0.7 else ends
    amount = make.randint(1, 4)
    wanted = [[(make.randint(0, 3), ("pay", tuple(range(many)), amount, image, ends))]] + [[] for _ in range(many + 1)]
    for own in steady:
        wanted[own] += [(60 * look, ("leave", at)) for at in range(len(of)) if own in of[at][:2]]
    asks = [((1, make.randint(1, amount)),) if own == many or make.random() < 0.05 else () for own in range(many + 1)] + [()]
    wishes_of = tuple(tuple(own) for own in wanted)
    return make, (of, times, steady, wishes_of, tuple(asks), ((0, 0, 0),) * (many + 2))


def busy(moments=8):
    """A world of a play: at moment 8 two closes are on the way, one that must come next, and letters were sent."""
    of = ((0, 1, 50, 30), (1, 2, 20, 20), (5, 0, 0, 0))
    payments = ((0, ("pay", (0, 1), 5, ("image", 7), (60, 50))), (0, ("pay", (0,), 3, ("image", 4), (50,))))
    wanted = (payments + ((6, ("leave", 2)), (8, ("leave", 0))), ((4, ("leave", 1)),), (), (), (), ())
    asks = ((), ((4, 2),), ((7, 1), (9, 2)), (), (), ((3, 1),))
    world = worlds.begun_world(of, (3, 2, 4), (0, 1), wanted, asks, ((0, 0, 0),) * 6)
    for moment in range(moments):
        world = worlds.next_world(world, worlds.swift(world) if moment < 5 else worlds.quiet(world))
    return world


def fitting_offer(make, world, book):
    """An offer of the other side that the owner of book takes; None if none was found."""
    channel, side, newest = book[:3]
    known = SECRETS if make.random() < 0.5 else world[10] or SECRETS
    # Most ends are such that all can just be done.
    end = world[3] + make.choice((1, 2, 3, 5, 8, 11, 14, 20, 30))
    lock = (1 - side, make.randint(1, 3), ("image", make.choice(known)), end)
    gone = [(what, own[2]) for what in ("pay", "drop") for own in newest[3]]
    try:
        return ("offer", changed(newest, 1 - side, make.choice([("add", lock)] * 4 + [("pass",)] + gone)))
    except Unfit:
        return None


def told_pass(make, world, mind, book):
    """A "pass" letter of a lock that pays the owner of book, with ends that are enough, or one too few."""
    net_of, times = world[:2]
    locks = [own for own in book[2][3] if own[0] != book[1]]
    if not locks:
        return None
    lock, others = make.choice(locks), [own[0] for own in mind[4]]
    outs = [end for end in range(lock[3]) if clocks.enough_gap(times, lock[3], end)]
    if not outs:
        return None
    # One that leads nowhere is told, too.
    others = [own for own in others if own != book[0]] or others
    way = (make.choice(others),) + ((make.randrange(len(net_of)),) if make.random() < 0.3 else ())
    ends = (outs[-1] + make.choice((0, 0, 0, -1, 1)),) + (max(outs[-1] - 5, 0),) * (len(way) - 1)
    return ("pass", book[0], lock[2], way, ends if min(ends) >= 0 else (0,) * len(way))


def own_letter(make, world, mind, book):
    """A letter of the rest about the channel of book to its owner; None if there is nothing to say."""
    told = make.random()
    if told < 0.15:
        return ("secret", book[0], make.choice(world[10])) if world[10] else None
    if book[3] is not None:
        return ("agree", book[3]) if told < 0.9 else ("offer", book[2])
    if in_turn(book):
        return ("turn", book[0], book[2][1])
    return fitting_offer(make, world, book)


def own_letters(make, world, busy):
    """Letters of the rest to the steady ones."""
    of, _, steady = world[:3]
    letters = []
    for mind in world[5]:
        for book in mind[4]:
            other = of[book[0]][1 - book[1]]
            if other not in steady and make.random() < busy:
                told = [told_pass(make, world, mind, book), own_letter(make, world, mind, book)]
                letters.extend([("own", other, mind[2], letter) for letter in told])
    return [part for part in letters if part[3] is not None]


def own_deeds(make, world, bad):
    """Deeds of the rest: closes with elder sheets most of all, secrets at the last moment."""
    of, found = world[0], []
    for channel in range(len(of)):
        closed = world[4][channel]
        pages = worlds.sealed_in(world, channel)
        if make.random() < (bad if closed is None else 2 * bad):
            found.append(("own", ("close", make.choice(pages[:-1] or pages))))
        if closed is not None and make.random() < 4 * bad:
            ends = [lock[3] for page in pages for lock in page[3]]
            if world[3] + 1 in ends or make.random() < 0.3:
                found.extend([("own", ("show", channel, secret)) for secret in world[10] if make.random() < 0.6])
    return found


def choice(make, world, bad, busy):
    """A choice of the rest: what must come comes, all else as it likes."""
    late = [("late", place) for place in range(len(world[8]))
            if place in worlds.forced(world) or make.random() < 0.2]
    row = late + own_deeds(make, world, bad)
    make.shuffle(row)
    letters = own_letters(make, world, busy)
    for place, part in enumerate(world[7]):
        fresh = part[3] == world[3]
        if make.random() < (0.7 if fresh else 0.08):
            letters.extend([("sent", place)] * make.choice((1, 1, 1, 2)))
    make.shuffle(letters)
    return (tuple(row), tuple(letters))


def is_over(world):
    """Whether all channels of steady ones are settled."""
    of, times, steady, moment, ledger = world[:5]
    return all(
        is_settled(ledger, times, channel, moment)
        for channel in range(len(of))
        if of[channel][0] in steady or of[channel][1] in steady
    )


def played(make, world, most=140, bads=(0.0, 0.02, 0.06)):
    """The worlds of a made-up play, the last one over, and its choices."""
    bad, busy = make.choice(bads), make.choice((0.2, 0.6, 0.9))
    along, made = [world], []
    while not is_over(along[-1]) and len(made) < most:
        made.append(choice(make, along[-1], bad, busy))
        along.append(worlds.next_world(along[-1], made[-1]))
    return along, made


def has_at_first(world, person):
    """What person has in its channels at the beginning."""
    return sum(part[2 + side] for part in world[0] for side in (0, 1) if part[side] == person)
