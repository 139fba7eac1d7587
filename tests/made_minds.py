"""Made-up minds at a look, with a ledger and a box: also such as no play comes to."""

from made_up import maker, split
from suredue import clocks
from suredue.errors import Unfit
from suredue.offers import changed, in_turn, is_change

ME = 1
SECRETS = (1, 2, 3, 4)


def net(make):
    """Two to four channels, most of them of ME."""
    made = []
    for _ in range(make.randint(2, 4)):
        other = make.choice((0, 2, 3))
        ends = (ME, other) if make.random() < 0.85 else (other, 4)
        made.append(tuple(make.sample(ends, 2)) + (make.randint(4, 12), make.randint(4, 12)))
    return tuple(made)


def image(make):
    return ("image", make.choice(SECRETS))


def end(make, times, moment):
    """An end that is near to where an answer changes."""
    near = moment + make.choice((0, times[0], 2 * times[0], times[0] + times[1], 2 * (times[0] + times[1])))
    return max(near + make.randint(-2, 3) + make.choice((0, 0, 0, 20)), 0)


def sheet(make, of, times, channel, moment, number):
    """A sheet with few locks, or with as many as there can be."""
    if number == 0:
        return (channel, 0, of[channel][2:], ())
    secrets = make.sample(SECRETS, make.randint(0, 3))
    if make.random() < 0.1:
        secrets = make.sample(range(1, 12), make.randint(6, 8))
    left, locks = sum(of[channel][2:]), []
    for secret in secrets:
        amount = make.randint(1, 1 if len(secrets) > 3 else 3)
        if amount <= left:
            left -= amount
            locks.append((make.randint(0, 1), amount, ("image", secret), end(make, times, moment)))
    return (channel, number, split(make, left), tuple(locks))


def change(make, times, side, moment):
    lock = (side, make.randint(1, 3), image(make), end(make, times, moment))
    return make.choice((("pass",), ("add", lock), ("add", lock), ("pay", image(make)), ("drop", image(make))))


def comes_of(make, times, page, side, moment):
    """A sheet that comes of page by a change of side."""
    while True:
        try:
            return changed(page, side, change(make, times, side, moment))
        except Unfit:
            continue


def book(make, of, times, channel, moment):
    side = of[channel].index(ME, 0, 2)
    newest = sheet(make, of, times, channel, moment, make.randint(0, 5))
    begun = (channel, side, newest, None, False, ())
    offered, asked = None, False
    if in_turn(begun):
        offered = comes_of(make, times, newest, side, moment) if make.random() < 0.4 else None
        asked = offered is None and make.random() < 0.4
    wanted = tuple(change(make, times, side, moment) for _ in range(make.choice((0, 0, 0, 1, 3))))
    assert all(is_change(own) for own in wanted)
    return (channel, side, newest, offered, asked, wanted)


def told(make, of, times, channel, moment):
    """(channel, image, route, ends) as a "pass" letter tells it."""
    route = tuple(make.randrange(len(of)) for _ in range(make.choice((0, 1, 1, 1, 2))))
    return (channel, image(make), route, tuple(end(make, times, max(moment - 6, 0)) for _ in route))


def fitting(make, of, times, books, moment):
    """Like told, of a lock that pays ME, on to another channel of ME."""
    here = make.choice(books)
    locks, others = [own for own in here[2][3] if own[0] != here[1]], [own[0] for own in books if own is not here]
    if not locks or not others:
        return told(make, of, times, here[0], moment)
    lock = make.choice(locks)
    ends = [own for own in range(lock[3] + 1) if clocks.enough_gap(times, lock[3], own)] or [0]
    far = make.choice((0, 0, 1, 2))
    route = (make.choice(others),) + tuple(make.randrange(len(of)) for _ in range(far))
    return (here[0], lock[2], route, (max(ends[-1] + make.choice((0, 0, 0, -3, 1)), 0),) + (moment,) * far)


def pair(make, of, times, own, moment):
    out = make.choice(own)
    told_on = told(make, of, times, out, moment)
    return (make.choice(own + [None]), told_on[1], out, told_on[2], told_on[3])


def wish(make, of, times, own, moment):
    at = max(moment + make.randint(-4, 2), 0)
    if make.random() < 0.3:
        return (at, ("leave", make.choice(own)))
    route = (make.choice(own),) + ((make.randrange(len(of)),) if make.random() < 0.4 else ())
    ends = tuple(end(make, times, moment) for _ in route)
    return (at, ("pay", route, make.randint(1, 6), image(make), ends))


def many(make, most, function, *args):
    return tuple(function(make, *args) for _ in range(make.randint(0, most)))


def letter(make, of, times, books, moment):
    """A pair (from, letter): of a channel of one's own, or not; from the other one, or not."""
    channel = make.randrange(len(of))
    page = sheet(make, of, times, channel, moment, make.randint(0, 5))
    for one in books:
        if one[0] == channel and make.random() < 0.8:
            page = comes_of(make, times, one[2], make.choice((one[1], 1 - one[1], 1 - one[1])), moment)
            page = make.choice((page, page, one[2], one[3] or page))
    here = [own for own in of[channel][:2] if own != ME]
    sender = make.choice(here) if make.random() < 0.85 else 5
    letters = (
        ("offer", page),
        ("agree", page),
        ("turn", channel, page[1] - make.choice((0, 1)) if page[1] else 0),
        ("secret", channel, make.choice(SECRETS)),
        ("pass",) + told(make, of, times, channel, moment),
    )
    return (sender, make.choice(letters))


def entry(make, of, times, books, channel, moment):
    """What the ledger tells of a channel: it is open, or lies with a sheet that is held, elder or other."""
    if make.random() < 0.6:
        return None
    held = [one[2] for one in books if one[0] == channel] + [one[3] for one in books if one[0] == channel and one[3]]
    pages = held + [(channel, 0, of[channel][2:], ()), sheet(make, of, times, channel, moment, make.randint(1, 5))]
    since = max(moment - make.randint(0, times[2] + 1), 0)
    secrets = make.sample(SECRETS, make.choice((0, 0, 1, 2)))
    shown = sorted(make.randint(since, max(moment, since)) for _ in secrets)
    return (make.choice(pages), since, tuple(zip(secrets, shown)))


def at_a_look(seed):
    """(mind, moment, ledger, box)."""
    make = maker(seed)
    of = net(make)
    own = [channel for channel in range(len(of)) if ME in of[channel][:2]]
    if not own:
        return at_a_look(seed + 10 ** 6)
    delay, look = make.randint(1, 4), make.randint(1, 4)
    times = (delay, look, clocks.least_wait(delay, look) + make.choice((0, 1)))
    moment = look * make.randint(0, 8)
    books = tuple(book(make, of, times, channel, moment) for channel in own)
    mind = (
        of,
        times,
        ME,
        make.choice(((0, 0, 0), (0, 0, 0), (1, 0, 0), (3, 1, 1), (0, 2, 0), (0, 0, 2))),
        books,
        tuple(sorted(make.sample(SECRETS, make.choice((0, 0, 1, 2))))),
        many(make, 2, lambda make: (make.choice(SECRETS), make.randint(1, 4))),
        many(make, 2, fitting, of, times, books, moment) + many(make, 1, told, of, times, make.choice(own), moment),
        many(make, 3, pair, of, times, own, moment),
        many(make, 3, wish, of, times, own, moment),
        tuple(sorted(make.sample(own, 1))) if make.random() < 0.2 else (),
    )
    ledger = tuple(entry(make, of, times, books, channel, moment) for channel in range(len(of)))
    return mind, moment, ledger, many(make, 4, letter, of, times, books, moment)
