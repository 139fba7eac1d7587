"""The sections 8 and 11 told a second time, as plainly as can be: what the tests compare with."""

import itertools

import plain


def looks(times, last):
    """All looks up to last."""
    return [moment for moment in range(last + 1) if moment % times[1] == 0]


def next_look(times, moment):
    while moment % times[1]:
        moment += 1
    return moment


def last_show(times, end):
    """The last look at which what is handed in surely comes by end; None if there is none."""
    found = [look for look in looks(times, end) if look + times[0] <= end]
    return found[-1] if found else None


def last_close(times, end):
    """The last look at which a close surely lies ahead of the last look for a show; None if there is none."""
    show = last_show(times, end)
    return None if show is None else last_show(times, show)


def in_time(times, moment, end):
    """Whether a close handed in from moment on, and a show behind it, surely come by end."""
    ways = itertools.product(looks(times, end), looks(times, end))
    return any(moment <= close and close + times[0] <= show and show + times[0] <= end for close, show in ways)


def counts(keep, lock):
    return lock[2][1] in keep[0] or lock[2] in keep[1]


def lots(page):
    """All lots of the LOCKS of page that can be opened."""
    return [lot for many in range(len(page[3]) + 1) for lot in itertools.combinations(page[3], many)]


def had(page, side, lot):
    """What side has of page if just the LOCKS of lot are opened."""
    taken = [lock[1] for lock in page[3] if (lock in lot) == (lock[0] != side)]
    return page[2][side] + sum(taken)


def worth(keep, side, page):
    """The least that side can have, if those LOCKS are opened that pay it and count."""
    surely = [lock for lock in page[3] if lock[0] != side and counts(keep, lock)]
    return min(had(page, side, lot) for lot in lots(page) if all(lock in lot for lock in surely))


def loss(keep, side, page, change):
    """By how much change lessens the worth; None if it can't be done."""
    fresh = plain.changed(page, side, change)
    return None if fresh is None else worth(keep, side, page) - worth(keep, side, fresh)


def gives(keep, side, page, change):
    lost = loss(keep, side, page, change)
    if lost is None:
        return None
    return lost == 0 and not (change[0] == "pay" and change[1][1] not in keep[0])


def may_open(times, moment, side, image, pages, opened):
    """Whether the LOCK was opened, or no look from its end on has been come to by moment."""
    if opened:
        return True
    ends = [lock[3] for page in pages for lock in page[3] if lock[0] == side and lock[2] == image]
    return any(not [look for look in looks(times, moment) if look >= end] for end in ends)


def passes(times, moment, gap, lock, out):
    """Whether the secret, seen at the look at out's end, still comes by the LOCK's end, were it gap later."""
    seen = next_look(times, out[3])
    good = lock[2] == out[2] and out[1] <= lock[1] and seen + times[0] <= lock[3] + gap
    return good and in_time(times, moment, lock[3])


def answer(times, moment, gap, keep, lock, onward):
    early = in_time(times, moment, lock[3])
    if moment > lock[3]:
        return "drop"
    if lock[2][1] in keep[0]:
        return "secret" if early else "show"
    if lock[2] in keep[1]:
        return "hold"
    if onward is not None and passes(times, moment, gap, lock, onward):
        return "pass"
    return "wait" if early else "drop"


def come_to(net, payer, way):
    """The PERSONS to whom way leads, payer first; None if it can't be gone."""
    people = [payer]
    for channel in way:
        one, other = net[channel][:2]
        if people[-1] not in (one, other):
            return None
        people.append(other if people[-1] == one else one)
    return tuple(people)


def is_route(net, payer, thing):
    if not plain.many_of(thing, lambda part: plain.place(net, part)) or thing == ():
        return False
    people = come_to(net, payer, thing)
    return people is not None and all(people.count(person) == 1 for person in people)


def routes(net, payer, payee, most):
    """All routes of at most most channels, out of all rows of unlike channels."""
    found = []
    for many in range(1, min(most, len(net)) + 1):
        for way in itertools.permutations(range(len(net)), many):
            if is_route(net, payer, way) and come_to(net, payer, way)[-1] == payee:
                found.append(way)
    return found


def most_over(net, pages, payer, way):
    """The greatest sum that each one on the way can put off."""
    people, most = come_to(net, payer, way), 0
    while all(pages[own][2][net[own][:2].index(person)] > most for own, person in zip(way, people)):
        most += 1
    return most
