"""Nets: how much can be paid over all routes together, who bars it, and who is needed for it."""

from suredue.errors import CanNot, Unfit
from suredue.routes import is_route, sides, walked
from suredue.sheets import channels_of, people_of, person_of, side_of
from suredue.values import ascending, frozen, is_from, is_set_from, is_tuple_of, with_part


def _check_unlike(payer, payee):
    """Unfit() if payer and payee are one PERSON."""
    if payer == payee:
        raise Unfit()


def _sums_of(sheets):
    """The tuple of the pairs of sums of sheets."""
    return tuple([frozen(sheet[2]) for sheet in sheets])


def _paid_over(net, sums, payer, route, amount):
    """The sums behind a PAYMENT over route; None if it can't be made."""
    left = sums
    for channel, side in zip(route, sides(net, payer, route)):
        pair = left[channel]
        if pair[side] < amount:
            return None
        pair = with_part(pair, side, pair[side] - amount)
        left = with_part(left, channel, with_part(pair, 1 - side, pair[1 - side] + amount))
    return left


def _ways_on(net, sums, person):
    """The pairs (channel, PERSON it leads to) of the channels in which person has something."""
    ways = []
    for channel in channels_of(net, person):
        side = side_of(net, channel, person)
        if sums[channel][side] > 0:
            ways.append((channel, person_of(net, channel, 1 - side)))
    return ways


def _reached(net, sums, payer):
    """For each PERSON that payer can pay something, and for itself, a shortest route from payer: a dict."""
    found, fresh = {payer: ()}, [payer]
    while fresh != []:
        behind = []
        for person in fresh:
            for channel, other in _ways_on(net, sums, person):
                if other not in found:
                    found[other] = found[person] + (channel,)
                    behind.append(other)
        fresh = behind
    return found


def _most_row(net, sums, payer, payee):
    """A row of PAYMENTS whose amounts come to the most, and the sums behind it."""
    row = []
    # Each PAYMENT leaves what can be paid back over the same channels: so no first choice spoils what comes later.
    while True:
        route = _reached(net, sums, payer).get(payee)
        if route is None:
            return (tuple(row), sums)
        amount = min([sums[channel][side] for channel, side in zip(route, sides(net, payer, route))])
        row.append((route, amount))
        sums = _paid_over(net, sums, payer, route, amount)


def _comes_to(row):
    """What the amounts of a row come to."""
    return sum([amount for _, amount in row])


def most_paid(net, sheets, payer, payee):
    """The greatest sum of the amounts of a row of PAYMENTS that can be made; Unfit() for like payer and payee."""
    _check_unlike(payer, payee)
    return _comes_to(_most_row(net, _sums_of(sheets), payer, payee)[0])


def payments(net, sheets, payer, payee, amount):
    """A row of PAYMENTS that can be made and comes to amount; CanNot() if there is none."""
    _check_unlike(payer, payee)
    row, left = [], amount
    for route, part in _most_row(net, _sums_of(sheets), payer, payee)[0]:
        if left > 0:
            row.append((route, min(part, left)))
            left -= min(part, left)
    if left > 0:
        raise CanNot()
    return tuple(row)


def _behind_row(net, sums, payer, row):
    """The sums behind a row of PAYMENTS from payer; None if it can't be made."""
    for route, amount in row:
        if not is_route(net, payer, route):
            return None
        sums = _paid_over(net, sums, payer, route, amount)
        if sums is None:
            return None
    return sums


def _is_payment(net, payer, payee, thing):
    """Whether thing is a PAYMENT from payer to payee."""
    if not is_tuple_of(thing, 2) or not is_route(net, payer, thing[0]) or not is_from(thing[1], 1):
        return False
    return walked(net, payer, thing[0])[-1] == payee


def are_payments(net, sheets, payer, payee, thing):
    """Whether thing is a row of PAYMENTS that can be made; Unfit() for like payer and payee."""
    _check_unlike(payer, payee)
    if not isinstance(thing, tuple) or not all([_is_payment(net, payer, payee, part) for part in thing]):
        return False
    return _behind_row(net, _sums_of(sheets), payer, thing) is not None


def sums_behind(net, sheets, payer, row):
    """The pairs of sums, for each channel, behind a row of PAYMENTS from payer; CanNot() if it can't be made."""
    sums = _behind_row(net, _sums_of(sheets), payer, frozen(row))
    if sums is None:
        raise CanNot()
    return sums


def held_out(net, sheets, persons):
    """What persons hold against the others."""
    held = 0
    for channel in range(len(net)):
        for side in (0, 1):
            if net[channel][side] in persons and net[channel][1 - side] not in persons:
                held += sheets[channel][2][side]
    return held


def bar(net, sheets, payer, payee):
    """The fewest PERSONS, with payer, without payee, that hold just most_paid against the others."""
    _check_unlike(payer, payee)
    sums = _most_row(net, _sums_of(sheets), payer, payee)[1]
    return ascending(list(_reached(net, sums, payer)))


def is_bar(net, sheets, payer, payee, thing):
    """Whether thing is a set of PERSONS as told by bar, with fewest or not; Unfit() for like payer and payee."""
    _check_unlike(payer, payee)
    if not is_set_from(thing, 0) or payer not in thing or payee in thing:
        return False
    return held_out(net, sheets, thing) == most_paid(net, sheets, payer, payee)


def most_without(net, sheets, payer, payee, persons):
    """most_paid if no channel of one of persons carried anything; Unfit(), too, if payer or payee is one of them."""
    _check_unlike(payer, payee)
    if payer in persons or payee in persons:
        raise Unfit()
    sums = [
        (0, 0) if channel[0] in persons or channel[1] in persons else pair
        for channel, pair in zip(net, _sums_of(sheets))
    ]
    return _comes_to(_most_row(net, tuple(sums), payer, payee)[0])


def needed(net, sheets, payer, payee):
    """The set of the other PERSONS without each of whom alone nothing can be paid; () if nothing can be with all."""
    if most_paid(net, sheets, payer, payee) == 0:
        return ()
    others = [person for person in people_of(net) if person not in (payer, payee)]
    return tuple([person for person in others if most_without(net, sheets, payer, payee, (person,)) == 0])


def locked_sums(net, sheets, person):
    """The pair of what the LOCKS that person pays come to, and of the greatest of their ends; (0, None) without."""
    locks = [lock for sheet in sheets for lock in sheet[3] if person_of(net, sheet[0], lock[0]) == person]
    return (sum([lock[1] for lock in locks]), max([lock[3] for lock in locks], default=None))
