"""Made-up nets, sheets, deeds and ledgers: the same ones at each run."""

import random

import plain


def maker(seed):
    return random.Random(seed)


def split(make, whole):
    part = make.randint(0, whole)
    return (part, whole - part)


def net(make, channels=3):
    made = []
    for _ in range(make.randint(1, channels)):
        one, other = make.sample(range(4), 2)
        made.append((one, other, make.randint(0, 9), make.randint(0, 9)))
    return tuple(made)


def times(make, wait=4):
    return (make.randint(1, 3), make.randint(1, 3), make.randint(0, wait))


def sheet(make, of, channel, number, secrets=(1, 2, 3), last=9):
    if number == 0:
        return (channel, 0, of[channel][2:], ())
    left, locks = of[channel][2] + of[channel][3], []
    for secret in make.sample(secrets, make.randint(0, len(secrets))):
        if left > 0:
            amount = make.randint(1, min(left, 4))
            left -= amount
            locks.append((make.randint(0, 1), amount, ("image", secret), make.randint(0, last)))
    return (channel, number, split(make, left), tuple(locks))


def sheets(make, of, many=6, **bounds):
    """Sheets of many numbers, some of one number, of all channels."""
    return tuple(sheet(make, of, make.randrange(len(of)), make.randint(0, 4), **bounds) for _ in range(many))


def deed(make, of, pages, secrets=(1, 2, 3, 4)):
    if make.random() < 0.5:
        return ("close", make.choice(pages))
    return ("show", make.randrange(len(of)), make.choice(secrets))


def row(make, of, pages, most=3):
    return tuple(deed(make, of, pages) for _ in range(make.randint(0, most)))


def rows(make, of, pages, many=8):
    return tuple(row(make, of, pages) if make.random() < 0.6 else () for _ in range(many))


def world(seed, **bounds):
    """A maker and a net, times, sheets, and those of them that are sealed."""
    make = maker(seed)
    of = net(make)
    pages = sheets(make, of, **bounds)
    sealed = tuple(page for page in pages if make.random() < 0.7)
    return make, of, times(make), pages, sealed


def closed_ledger(seed, moments=6, **bounds):
    """Like world, then a ledger at some moment, with a channel that is closed there."""
    while True:
        make, of, limits, pages, sealed = world(seed, **bounds)
        there, moment = (None,) * len(of), make.randint(1, moments)
        for own in range(1, moment + 1):
            there = plain.behind(of, there, limits, own, row(make, of, pages, 2), sealed)
        closed = [channel for channel in range(len(of)) if there[channel] is not None]
        if closed:
            return make, of, limits, pages, sealed, there, make.choice(closed), moment
        seed += 100000
