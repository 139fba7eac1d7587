"""The ledger: what comes to it, what lies there, what is settled."""

from suredue.errors import CanNot
from suredue.sheets import first_sheet, has, is_opened, is_sheet, people_of
from suredue.values import are_unlike, ascending, at_place, frozen, is_below, is_from, is_tuple_of, with_part


def is_deed(net, thing):
    """Whether thing is a DEED of channels of net."""
    if is_tuple_of(thing, 2):
        return thing[0] == "close" and is_sheet(net, thing[1])
    if is_tuple_of(thing, 3):
        return thing[0] == "show" and is_below(thing[1], len(net)) and is_from(thing[2], 0)
    return False


def _are_shown(since, thing):
    """Whether thing is what can be shown in a channel that was closed at since."""
    if not isinstance(thing, tuple):
        return False
    latest = since
    for pair in thing:
        if not is_tuple_of(pair, 2) or not is_from(pair[0], 0) or not is_from(pair[1], latest):
            return False
        latest = pair[1]
    return are_unlike([pair[0] for pair in thing])


def _is_entry(net, channel, thing):
    """Whether thing is what a LEDGER of net can tell of channel."""
    if thing is None:
        return True
    if not is_tuple_of(thing, 3):
        return False
    sheet, since, shown = thing
    return is_sheet(net, sheet) and sheet[0] == channel and is_from(since, 0) and _are_shown(since, shown)


def is_ledger(net, thing):
    """Whether thing is a LEDGER of net."""
    if not is_tuple_of(thing, len(net)):
        return False
    return all([_is_entry(net, channel, thing[channel]) for channel in range(len(net))])


def persons(net):
    """The set of the PERSONS of the CHANNELS of net."""
    return people_of(net)


def begun_ledger(net):
    """The LEDGER in which all channels are open."""
    return (None,) * len(net)


def was_shown(shown, secret):
    """Whether secret is in shown, at whatever moment."""
    return any([pair[0] == secret for pair in shown])


def all_shown(ledger):
    """The set of the SECRETS that were shown in whatever channel."""
    return ascending([pair[0] for entry in ledger if entry is not None for pair in entry[2]])


def _does_close(net, entry, times, moment, sheet, sealed):
    """Whether ("close", sheet), coming at moment to a channel of which the LEDGER tells entry, does something."""
    # SHEETS 0 are sealed without being told so.
    if sheet not in sealed and sheet != first_sheet(net, sheet[0]):
        return False
    return entry is None or (entry[0][1] < sheet[1] and moment <= entry[1] + times[2])


def _behind(net, ledger, times, moment, deed, sealed):
    """The LEDGER behind deed, which comes at moment; the same one if it does nothing. All is made of tuples."""
    if deed[0] == "close":
        sheet = deed[1]
        entry = at_place(ledger, sheet[0])
        if not _does_close(net, entry, times, moment, sheet, sealed):
            return ledger
        # Who replaces a SHEET wins no time: the moment of the first close stays.
        fresh = (sheet, moment, ()) if entry is None else (sheet, entry[1], entry[2])
        return with_part(ledger, sheet[0], fresh)
    channel, secret = deed[1:]
    entry = at_place(ledger, channel)
    if entry is None or was_shown(entry[2], secret):
        return ledger
    fresh = (entry[0], entry[1], entry[2] + ((secret, moment),))
    return with_part(ledger, channel, fresh)


def does(net, ledger, times, moment, deed, sealed):
    """Whether deed, coming at moment, does something."""
    there = frozen(ledger)
    # Whatever is done changes the LEDGER: a number that grows, or a secret more.
    return _behind(net, there, times, moment, frozen(deed), frozen(sealed)) != there


def comes(net, ledger, times, moment, row, sealed):
    """The LEDGER behind row, which comes at moment."""
    there, pages = frozen(ledger), frozen(sealed)
    for deed in frozen(row):
        there = _behind(net, there, times, moment, deed, pages)
    return there


def ledgers_along(net, times, rows, sealed):
    """The list of the LEDGERS at the moments 0, 1, .., ROW rows[k] coming at moment k + 1."""
    along = [begun_ledger(net)]
    for at in range(len(rows)):
        along.append(comes(net, along[at], times, at + 1, rows[at], sealed))
    return along


def closed_entry(ledger, channel):
    """What ledger tells of channel, (sheet, since, shown); CanNot() if it is open."""
    entry = at_place(ledger, channel)
    if entry is None:
        raise CanNot()
    return entry


def lies(ledger, channel):
    """The SHEET that lies in channel; None if it is open."""
    entry = at_place(ledger, channel)
    return None if entry is None else frozen(entry[0])


def opened_in(ledger, channel):
    """The tuple of the LOCKS, of the SHEET that lies in channel, that are opened; () if it is open."""
    entry = at_place(ledger, channel)
    if entry is None:
        return ()
    return tuple([frozen(lock) for lock in entry[0][3] if is_opened(lock, entry[2])])


def last_unsettled(sheet, since, shown, times):
    """The last moment at which a channel with this SHEET is not settled, if nothing more comes to it."""
    return max([since + times[2]] + [lock[3] for lock in sheet[3] if not is_opened(lock, shown)])


def is_settled(ledger, times, channel, moment):
    """Whether channel is settled at moment."""
    entry = at_place(ledger, channel)
    return entry is not None and moment > last_unsettled(entry[0], entry[1], entry[2], times)


def has_in(net, ledger, channel):
    """What SIDE 0 and SIDE 1 of channel would have if nothing more came; CanNot() if it is open."""
    sheet, _, shown = closed_entry(ledger, channel)
    return (has(sheet, shown, 0), has(sheet, shown, 1))


def ends_with(net, ledger, times, moment):
    """What each PERSON, from 0 to the greatest one of net, has in channels that are settled at moment."""
    ends = [0] * (max(persons(net)) + 1)
    for channel in range(len(net)):
        if is_settled(ledger, times, channel, moment):
            sums = has_in(net, ledger, channel)
            for side in (0, 1):
                ends[net[channel][side]] += sums[side]
    return tuple(ends)
