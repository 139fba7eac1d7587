"""Settling: when a channel is settled whatever comes, and what its SIDES can have in the end."""

from suredue.errors import CanNot
from suredue.ledger import closed_entry, comes, is_deed, is_settled, last_unsettled, was_shown
from suredue.sheets import has
from suredue.values import at_place, frozen


def state_of(ledger, times, channel, moment):
    """The state of channel at moment: "open", "waiting", "locked" or "settled"."""
    entry = at_place(ledger, channel)
    if entry is None:
        return "open"
    if moment <= entry[1] + times[2]:
        return "waiting"
    return "settled" if is_settled(ledger, times, channel, moment) else "locked"


def alone(ledger, times, channel):
    """The least moment at which channel is settled if nothing more comes; CanNot() if it is open."""
    sheet, since, shown = closed_entry(ledger, channel)
    return last_unsettled(sheet, since, shown, times) + 1


def still_open(ledger, times, moment):
    """The triples (channel, state, until) of the channels not settled at moment; until is None for an open one."""
    found = []
    for channel in range(len(ledger)):
        state = state_of(ledger, times, channel, moment)
        if state == "open":
            found.append((channel, state, None))
        elif state != "settled":
            found.append((channel, state, alone(ledger, times, channel)))
    return tuple(found)


def _can_come(entry, times, channel, moment, sealed):
    """The list of the SHEETS that can come to lie behind moment in channel, of which the LEDGER tells entry."""
    sheet, since, _ = entry
    if moment + 1 > since + times[2]:
        return [sheet]
    return [sheet] + [page for page in frozen(sealed) if page[0] == channel and page[1] > sheet[1]]


def surely_by(ledger, times, channel, moment, sealed):
    """The least moment from which on channel is settled whatever comes behind moment; CanNot() if it is open."""
    entry = closed_entry(ledger, channel)
    # The worst that can come is one of these SHEETS, and then no secret more.
    pages = _can_come(entry, times, channel, moment, sealed)
    return max([last_unsettled(page, entry[1], entry[2], times) for page in pages]) + 1


def late_row(ledger, times, channel, moment, sealed):
    """A ROW that, coming at moment + 1, leaves channel unsettled till surely_by; CanNot() if there is none."""
    entry = closed_entry(ledger, channel)
    by = surely_by(ledger, times, channel, moment, sealed)
    if by <= moment + 1:
        raise CanNot()
    if alone(ledger, times, channel) == by:
        return ()
    late = [
        page
        for page in _can_come(entry, times, channel, moment, sealed)
        if last_unsettled(page, entry[1], entry[2], times) + 1 == by
    ]
    return (("close", late[0]),)


def is_late(net, ledger, times, channel, moment, sealed, thing):
    """Whether thing is a ROW as late_row returns one; CanNot() if channel is open."""
    by = surely_by(ledger, times, channel, moment, sealed)
    if by <= moment + 1 or not isinstance(thing, tuple) or not all([is_deed(net, deed) for deed in thing]):
        return False
    # What is not settled just ahead of by is not settled at any moment before, either.
    return alone(comes(net, ledger, times, moment + 1, thing, sealed), times, channel) >= by


def _may_be_opened(lock, shown, moment, secrets):
    """Whether lock can come to be opened behind moment, if only secrets are shown then."""
    # What was shown once is never shown again: it has opened the lock already, or came too late for it.
    secret = lock[2][1]
    return secret in secrets and moment < lock[3] and not was_shown(shown, secret)


def _least_and_most(sheet, shown, side, moment, secrets):
    """What a SIDE can have at least and at most if sheet lies there in the end."""
    least = most = has(sheet, shown, side)
    for lock in sheet[3]:
        if not _may_be_opened(lock, shown, moment, secrets):
            continue
        if lock[0] == side:
            least -= lock[1]
        else:
            most += lock[1]
    return (least, most)


def between(net, ledger, times, channel, moment, sealed, secrets):
    """For SIDE 0 and SIDE 1 the pair (least, most) of what it can have in the end; CanNot() if channel is open."""
    entry = closed_entry(ledger, channel)
    pages = _can_come(entry, times, channel, moment, sealed)
    ends = []
    for side in (0, 1):
        reach = [_least_and_most(page, entry[2], side, moment, secrets) for page in pages]
        ends.append((min([pair[0] for pair in reach]), max([pair[1] for pair in reach])))
    return tuple(ends)


def all_by(ledger, times, moment, sealed):
    """The greatest surely_by of all closed channels; 0 if there are none."""
    closed = [channel for channel in range(len(ledger)) if ledger[channel] is not None]
    return max([surely_by(ledger, times, channel, moment, sealed) for channel in closed], default=0)
