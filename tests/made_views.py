"""Made-up views: many of them such as no world has."""

import made_minds
from made_up import maker, split

ME = made_minds.ME
SECRETS = (1, 2, 3)


def sheet(make, of, times, channel, moment, number):
    """A sheet with few locks, whose ends are near to where something changes."""
    if number == 0:
        return (channel, 0, of[channel][2:], ())
    left, locks = sum(of[channel][2:]), []
    for secret in make.sample(SECRETS, make.choice((0, 1, 2, 3))):
        amount = make.randint(1, 3)
        if amount <= left:
            left -= amount
            locks.append((make.randint(0, 1), amount, ("image", secret), made_minds.end(make, times, moment)))
    return (channel, number, split(make, left), tuple(locks))


def like(make, page, number):
    """A sheet of another number that is like page but for a lock that may be gone."""
    channel, _, sums, locks = page
    if number == 0 or not locks or make.random() < 0.5:
        return None
    gone = make.choice(locks)
    return (channel, number, (sums[0] + gone[1], sums[1]), tuple(lock for lock in locks if lock is not gone))


def pages(make, of, times, channel, moment, most):
    """Some sheets of a channel, most of them of unlike numbers."""
    found = [sheet(make, of, times, channel, moment, make.randint(0, 3))]
    while len(found) < most:
        number = make.randint(0, 4)
        found.append(like(make, found[-1], number) or sheet(make, of, times, channel, moment, number))
    return found


def entry(make, of, times, here, moment):
    """What the ledger tells of a closed channel in which one of here, or its first one, lies."""
    since = max(moment - make.randint(0, times[2] + 2), 0)
    secrets = make.sample(SECRETS, make.choice((0, 0, 1, 2)))
    shown = sorted(make.randint(since, moment) for _ in secrets)
    channel = here[0][0]
    lying = make.choice(here + [(channel, 0, of[channel][2:], ())])
    return (lying, since, tuple(zip(secrets, shown)))


def deed(make, here, moment, times):
    """A pair (deed, last): a close with one of here, or a show."""
    page = make.choice(here)
    what = ("close", page) if make.random() < 0.5 else ("show", page[0], make.choice(SECRETS))
    return (what, max(moment + make.randint(-1, times[0] + times[1] + 2), 0))


def view(seed):
    """(net, times, view)"""
    make = maker(seed)
    of = made_minds.net(make)
    own = [channel for channel in range(len(of)) if ME in of[channel][:2]]
    if not own:
        return view(seed + 10 ** 6)
    delay, look = make.randint(1, 3), make.randint(1, 3)
    times = (delay, look, make.randint(0, 8))
    moment = make.randint(0, 20)
    there = [pages(make, of, times, channel, moment, make.choice((1, 2, 3))) for channel in range(len(of))]
    ledger = tuple(entry(make, of, times, here, moment) if make.random() < 0.5 else None for here in there)
    # What comes is often of closed channels.
    coming = tuple(deed(make, make.choice(there), moment, times) for _ in range(make.choice((0, 0, 1, 2, 4))))
    held = tuple(make.choice(there[channel]) if channel in own else None for channel in range(len(of)))
    given = tuple(sorted({page for channel in own for page in there[channel] if make.random() < 0.7}))
    known = tuple(sorted(make.sample(SECRETS, make.choice((0, 0, 1)))))
    return of, times, (ME, moment, ledger, held, given, known, coming)
