"""Section 14 told a second time: all CASES of a VIEW one after the other, each with its worth."""

import itertools

import plain
import plain_rules


def is_set(thing, judge):
    """Whether thing is a tuple of what judge wants, each part above the one ahead of it."""
    return plain.many_of(thing, judge) and all(one < other for one, other in zip(thing, thing[1:]))


def sides(net, person):
    """The dict of the channels of person and its sides there."""
    return {at: side for at, channel in enumerate(net) for side in (0, 1) if channel[side] == person}


def is_view(net, thing):
    whatever = (lambda part: True)
    if not plain.row_of(thing, plain.number, plain.number, whatever, whatever, whatever, whatever, whatever):
        return False
    person, moment, ledger, held, given, secrets, coming = thing
    own = sides(net, person)
    if own == {} or not plain.ledger(net, ledger) or held.__class__ is not tuple or len(held) != len(net):
        return False
    if any(entry[1] > moment or [at for _, at in entry[2] if at > moment] for entry in ledger if entry):
        return False
    for channel, page in enumerate(held):
        if channel not in own:
            if page is not None:
                return False
        elif not plain.sheet(net, page) or page[0] != channel:
            return False
    return (
        is_set(given, lambda part: plain.sheet(net, part) and part[0] in own)
        and is_set(secrets, plain.number)
        and plain.many_of(coming, lambda pair: plain.row_of(pair, lambda part: plain.deed(net, part), plain.number))
    )


def next_look(times, view):
    return plain_rules.next_look(times, view[1] + 1)


def possible(net, times, view, channel):
    """The SHEETS that can lie."""
    _, moment, ledger, held, given, _, coming = view
    entry, floor = ledger[channel], held[channel]
    if entry is not None:
        lying, last = entry[0], entry[1] + times[2]
        if not moment < last:
            return (lying,)
        on_the_way = [by for deed, by in coming if deed[0] == "close" and deed[1] == floor and not by > last]
        if not lying[1] < floor[1] or not on_the_way and next_look(times, view) + times[0] > last:
            floor = lying
    higher = [page for page in given if page[0] == channel and page[1] > floor[1]]
    return (floor,) + tuple(sorted(higher))


def closing(net, times, view, channel):
    """The moment by which a channel is closed."""
    entry = view[2][channel]
    if entry is not None:
        return entry[1]
    lasts = [by for deed, by in view[6] if deed[0] == "close" and deed[1][0] == channel]
    return sorted(lasts + [next_look(times, view) + times[0]])[0]


def is_opened(view, channel, lock):
    entry = view[2][channel]
    return entry is not None and any(secret == lock[2][1] and not at > lock[3] for secret, at in entry[2])


def in_question(view, channel, lock):
    return not is_opened(view, channel, lock) and lock[3] > view[1]


def is_sure(net, times, view, channel, lock, since):
    if is_opened(view, channel, lock):
        return True
    if view[2][channel] is not None:
        if any(deed == ("show", channel, lock[2][1]) and not by > lock[3] for deed, by in view[6]):
            return True
    start = max(since, next_look(times, view), closing(net, times, view, channel))
    return not plain_rules.next_look(times, start) + times[0] > lock[3]


def own_locks(net, view, pages):
    """The pairs (channel, lock) that the person pays in pages."""
    own = sides(net, view[0])
    return [(page[0], lock) for page in pages if page for lock in page[3] if lock[0] == own[page[0]]]


def cases(net, times, view):
    """All CASES, one after the other."""
    own = sides(net, view[0])
    choices = [possible(net, times, view, at) if at in own else (None,) for at in range(len(net))]
    for pages in itertools.product(*choices):
        locks = own_locks(net, view, pages)
        must = [(at, lock[2]) for at, lock in locks if is_opened(view, at, lock)]
        may = [(at, lock[2]) for at, lock in locks if in_question(view, at, lock)]
        for many in range(len(may) + 1):
            for more in itertools.combinations(may, many):
                yield (pages, tuple(sorted(must + list(more))))


def worth(net, times, view, case):
    pages, opened = case
    own, locks = sides(net, view[0]), own_locks(net, view, pages)
    worth = 0
    for page in pages:
        if page is None:
            continue
        channel, _, sums, there = page
        worth += sums[own[channel]]
        for lock in there:
            if lock[0] == own[channel]:
                worth += 0 if (channel, lock[2]) in opened else lock[1]
                continue
            alike = [(at, one) for at, one in locks if one[2] == lock[2] and (at, one[2]) in opened]
            counts = is_opened(view, channel, lock)
            if lock[2][1] in view[5] or any(is_opened(view, at, one) for at, one in alike):
                counts = counts or is_sure(net, times, view, channel, lock, next_look(times, view))
            elif alike:
                first = min(one[3] for _, one in alike)
                counts = counts or is_sure(net, times, view, channel, lock, plain_rules.next_look(times, first))
            worth += lock[1] if counts else 0
    return worth


def due(net, times, view):
    return min(worth(net, times, view, case) for case in cases(net, times, view))


def is_case(net, times, view, thing):
    image = (lambda part: plain.row_of(part, lambda at: plain.place(net, at), plain.image))
    pages = (lambda part: plain.many_of(part, lambda page: page is None or plain.sheet(net, page)))
    if not plain.row_of(thing, pages, lambda part: plain.many_of(part, image)):
        return False
    return thing in list(cases(net, times, view))
