"""Channels, locks and sheets."""

from suredue.values import are_unlike, ascending, at_place, frozen, is_below, is_from, is_tuple_of


def is_person(thing):
    """Whether thing is a PERSON."""
    return is_from(thing, 0)


def is_times(thing):
    """Whether thing is TIMES: (delay, look, wait)."""
    return is_tuple_of(thing, 3) and is_from(thing[0], 1) and is_from(thing[1], 1) and is_from(thing[2], 0)


def is_channel(thing):
    """Whether thing is a CHANNEL: (one, other, sum, far)."""
    return is_tuple_of(thing, 4) and all([is_from(part, 0) for part in thing]) and thing[0] != thing[1]


def is_net(thing):
    """Whether thing is a NET."""
    return isinstance(thing, tuple) and len(thing) > 0 and all([is_channel(part) for part in thing])


def is_image(thing):
    """Whether thing is an IMAGE: ("image", secret)."""
    return is_tuple_of(thing, 2) and thing[0] == "image" and is_from(thing[1], 0)


def is_lock(thing):
    """Whether thing is a LOCK: (payer, amount, image, end)."""
    if not is_tuple_of(thing, 4):
        return False
    payer, amount, image, end = thing
    return is_below(payer, 2) and is_from(amount, 1) and is_image(image) and is_from(end, 0)


def _are_locks(thing):
    """Whether thing is a tuple of LOCKS, no two with one image."""
    if not isinstance(thing, tuple) or not all([is_lock(part) for part in thing]):
        return False
    return are_unlike([lock[2][1] for lock in thing])


def is_sheet(net, thing):
    """Whether thing is a SHEET, (channel, number, sums, locks), of a channel of net."""
    if not is_tuple_of(thing, 4):
        return False
    channel, number, sums, locks = thing
    if not is_below(channel, len(net)) or not is_from(number, 0):
        return False
    if not is_tuple_of(sums, 2) or not is_from(sums[0], 0) or not is_from(sums[1], 0) or not _are_locks(locks):
        return False
    if number == 0:
        return thing == first_sheet(net, channel)
    return total(thing) == net[channel][2] + net[channel][3]


def look_at(times, moment):
    """The least look that is not before moment."""
    look = times[1]
    return (moment + look - 1) // look * look


def look_by(times, moment):
    """The greatest look that is not behind moment; None if moment is below 0."""
    if moment < 0:
        return None
    return moment // times[1] * times[1]


def person_of(net, channel, side):
    """The PERSON of this SIDE of channel."""
    return at_place(net, channel)[side]


def side_of(net, channel, person):
    """The SIDE of person in channel; None if it is in none."""
    people = at_place(net, channel)[:2]
    for side in (0, 1):
        if people[side] == person:
            return side
    return None


def channels_of(net, person):
    """The set of the channels in which person is."""
    return tuple([channel for channel in range(len(net)) if person in net[channel][:2]])


def people_of(net):
    """The set of the PERSONS of the CHANNELS of net."""
    return ascending([person for channel in net for person in channel[:2]])


def first_sheet(net, channel):
    """The SHEET 0 of channel."""
    return (channel, 0, tuple(at_place(net, channel)[2:]), ())


def total(sheet):
    """What the sums and the amounts of sheet come to."""
    return sum(sheet[2]) + sum([lock[1] for lock in sheet[3]])


def image_of(secret):
    """The IMAGE of secret."""
    return ("image", secret)


def lock_of(sheet, image):
    """The LOCK of sheet with this IMAGE; None if there is none."""
    for lock in sheet[3]:
        if lock[2][1] == image[1]:
            return frozen(lock)
    return None


def is_opened(lock, shown):
    """Whether the secret of lock is in shown with a moment of at most its end."""
    return any([secret == lock[2][1] and moment <= lock[3] for secret, moment in shown])


def has(sheet, shown, side):
    """What a SIDE has by sheet, if all is decided by what is shown."""
    worth = sheet[2][side]
    for lock in sheet[3]:
        if is_opened(lock, shown) != (lock[0] == side):
            worth += lock[1]
    return worth
