"""Clocks: waits and gaps that are enough, and the last looks at which one must go to the ledger."""

from suredue.sheets import look_at, look_by


def least_wait(delay, look):
    """The least wait that is enough."""
    return delay + look - 1


def enough_wait(times):
    """Whether the wait of times is enough."""
    return times[2] >= least_wait(times[0], times[1])


def show_by(times, end):
    """The last look at which what is handed in surely comes by end; None if there is none."""
    return look_by(times, end - times[0])


def close_by(times, end):
    """The last look at which a close surely lies ahead of a show handed in at show_by; None if there is none."""
    last = show_by(times, end)
    return None if last is None else look_by(times, last - times[0])


def in_time(times, moment, end):
    """Whether what is closed from moment on can surely be shown in by end."""
    last = close_by(times, end)
    return last is not None and moment <= last


def least_in_end(times, out_end):
    """The least end of a LOCK in, if the LOCK out has out_end."""
    return look_at(times, out_end) + times[0]


def enough_gap(times, in_end, out_end):
    """Whether in_end is enough for out_end."""
    return in_end >= least_in_end(times, out_end)


def go_by(times, in_end, out_end):
    """The look at which a channel must be closed though no secret is known; None if there is none."""
    last = close_by(times, in_end)
    # At the look at out_end the secret is seen, if it was shown at all.
    return last if last is not None and last < look_at(times, out_end) else None


def least_ends(times, many, last):
    """The least ends of the LOCKS of a route of many channels, the last one's being last."""
    ends = (last,)
    while len(ends) < many:
        ends = (least_in_end(times, ends[0]),) + ends
    return ends


def begin_by(times, ends):
    """The last look at which all LOCKS with these ends can be in time; None if there is none."""
    looks = [close_by(times, end) for end in ends]
    return None if None in looks else min(looks)


def settled_by(times, moment, ends):
    """The moment by which all is settled if a channel, with LOCKS of these ends, is left at moment."""
    return max([look_at(times, moment) + times[0] + times[2]] + list(ends)) + 1
