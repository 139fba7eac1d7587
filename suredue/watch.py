"""Watchers: who looks at the ledger for elder sheets, and how long a wait they need."""

from itertools import combinations
from math import lcm

from suredue.errors import CanNot, TooMuch
from suredue.ledger import begun_ledger, comes
from suredue.values import is_from, is_tuple_of

_MOST_MOMENTS = 10000


def is_watcher(thing):
    """Whether thing is a WATCHER: (step, first, delay)."""
    if not is_tuple_of(thing, 3):
        return False
    step, first, delay = thing
    return is_from(step, 1) and is_from(first, 0) and first < step and is_from(delay, 1)


def next_look(watcher, moment):
    """The first look of watcher that is not before moment."""
    step, first, _ = watcher
    return first + (moment - first + step - 1) // step * step


def _last_comings(watchers, moment):
    """For each of watchers the last moment at which what it hands in at its next look can come."""
    return [next_look(watcher, moment) + watcher[2] for watcher in watchers]


def answered_at(watchers, moment):
    """The moment at which an elder SHEET that comes at moment is answered; CanNot() for ()."""
    if len(watchers) == 0:
        raise CanNot()
    return min(_last_comings(watchers, moment))


def _moments(watchers):
    """The moments behind which all comes again; CanNot() for (), TooMuch() if they are too many."""
    if len(watchers) == 0:
        raise CanNot()
    period = 1
    for watcher in watchers:
        period = lcm(period, watcher[0])
        if period > _MOST_MOMENTS:
            raise TooMuch()
    return list(range(1, period + 1))


def wait_wanted(watchers):
    """The least wait; CanNot() for (), TooMuch() if the steps come together too late."""
    return max([answered_at(watchers, moment) - moment for moment in _moments(watchers)])


def worst_moment(watchers):
    """The least moment that wants the least wait; CanNot() and TooMuch() as wait_wanted."""
    moments = _moments(watchers)
    waits = [answered_at(watchers, moment) - moment for moment in moments]
    return moments[waits.index(max(waits))]


def is_enough(watchers, wait):
    """Whether wait is enough; TooMuch() as wait_wanted."""
    return len(watchers) > 0 and wait_wanted(watchers) <= wait


def needless(watchers):
    """The set of the places of those that can be left out, each one alone; CanNot() and TooMuch() as wait_wanted."""
    least = wait_wanted(watchers)
    if len(watchers) == 1:
        return ()
    every = list(range(len(watchers)))
    return tuple([at for at in every if wait_wanted([watchers[own] for own in every if own != at]) == least])


def fewest(watchers, wait):
    """The least set of as few places as can be whose WATCHERS are enough; CanNot() if there is none, TooMuch()."""
    moments = _moments(watchers)
    lasts = [_last_comings(watchers, moment) for moment in moments]
    # WATCHERS are enough if at each moment one of them is: few of these lots are unlike.
    lots = sorted(set([
        tuple([at for at in range(len(watchers)) if lasts[row][at] <= moments[row] + wait])
        for row in range(len(moments))
    ]))
    for many in range(1, len(watchers) + 1):
        for places in combinations(range(len(watchers)), many):
            if all([any([at in places for at in lot]) for lot in lots]):
                return places
    raise CanNot()


def too_little(watchers, wait):
    """The LATE PAIR with the least moment; CanNot() if there is none, TooMuch() as wait_wanted."""
    for moment in _moments(watchers):
        lasts = tuple(_last_comings(watchers, moment))
        if min(lasts) > moment + wait:
            return (moment, lasts)
    raise CanNot()


def is_too_little(watchers, wait, thing):
    """Whether thing is a LATE PAIR."""
    if len(watchers) == 0 or not is_tuple_of(thing, 2) or not is_from(thing[0], 1):
        return False
    lasts = tuple(_last_comings(watchers, thing[0]))
    return thing[1] == lasts and min(lasts) > thing[0] + wait


def ledger_behind(net, times, elder, newest, moment, watchers, lates):
    """The LEDGER behind all answers to elder, which comes at moment."""
    sealed = (elder, newest)
    ledger = comes(net, begun_ledger(net), times, moment, (("close", elder),), sealed)
    for at in sorted([next_look(watchers[place], moment) + lates[place] for place in range(len(watchers))]):
        ledger = comes(net, ledger, times, at, (("close", newest),), sealed)
    return ledger
