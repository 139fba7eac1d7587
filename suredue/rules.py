"""Rules: what a sheet is worth to one who keeps the rules, and what such a one offers, passes on and answers."""

from suredue.clocks import enough_gap, in_time
from suredue.offers import changed
from suredue.sheets import lock_of, look_at


def _counts(keep, lock):
    """Whether the secret of lock is known by keep, or its IMAGE bound."""
    secrets, images = keep
    return lock[2][1] in secrets or lock[2][1] in [image[1] for image in images]


def worth(keep, side, sheet):
    """The worth of sheet for a SIDE by keep."""
    return sheet[2][side] + sum([lock[1] for lock in sheet[3] if lock[0] != side and _counts(keep, lock)])


def loss(keep, side, sheet, change):
    """By how much change, which side offers, lessens the worth; Unfit() if it can't be done."""
    return worth(keep, side, sheet) - worth(keep, side, changed(sheet, side, change))


def gives(keep, side, sheet, change):
    """Whether a steady PERSON offers change by itself; Unfit() if it can't be done."""
    return loss(keep, side, sheet, change) == 0 and (change[0] != "pay" or change[1][1] in keep[0])


def may_open(times, moment, side, image, sheets, opened):
    """Whether a LOCK of side with image may still come to be opened, or was."""
    if opened:
        return True
    locks = [lock_of(sheet, image) for sheet in sheets]
    # The secret may be shown at the end itself and not be seen ahead of the look at it.
    return any([lock is not None and lock[0] == side and moment < look_at(times, lock[3]) for lock in locks])


def passes(times, moment, gap, lock, out):
    """Whether a PERSON whom lock pays passes it on by out, which it would pay."""
    if lock[2][1] != out[2][1] or out[1] > lock[1]:
        return False
    return enough_gap(times, lock[3] + gap, out[3]) and in_time(times, moment, lock[3])


def answer(times, moment, gap, keep, lock, onward):
    """What a steady PERSON does at a look with lock, which pays it; onward is an out-LOCK or None."""
    if moment > lock[3]:
        return "drop"
    in_good_time = in_time(times, moment, lock[3])
    if lock[2][1] in keep[0]:
        return "secret" if in_good_time else "show"
    if _counts(keep, lock):
        return "hold"
    if onward is not None and passes(times, moment, gap, lock, onward):
        return "pass"
    return "wait" if in_good_time else "drop"
