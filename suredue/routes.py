"""Routes: over which channels a payment can go, and how much."""

from suredue.clocks import close_by, enough_gap, least_ends, show_by
from suredue.errors import CanNot, Unfit
from suredue.sheets import channels_of, image_of, person_of, side_of
from suredue.values import frozen, is_below


def is_route(net, payer, thing):
    """Whether thing is a route from payer."""
    if not isinstance(thing, tuple) or thing == ():
        return False
    people = [payer]
    for channel in thing:
        if not is_below(channel, len(net)):
            return False
        side = side_of(net, channel, people[-1])
        if side is None or person_of(net, channel, 1 - side) in people:
            return False
        people.append(person_of(net, channel, 1 - side))
    return True


def _leads_to(net, channel, person):
    """The PERSON to whom channel leads from person, who is in it."""
    return person_of(net, channel, 1 - side_of(net, channel, person))


def walked(net, payer, route):
    """The tuple of the PERSONS come to, payer first; Unfit() if route is none."""
    if not is_route(net, payer, frozen(route)):
        raise Unfit()
    people = [payer]
    for channel in route:
        people.append(_leads_to(net, channel, people[-1]))
    return tuple(people)


def sides(net, payer, route):
    """The tuple of the SIDES that pay; Unfit() if route is none."""
    return tuple([side_of(net, channel, person) for channel, person in zip(route, walked(net, payer, route))])


def payment_locks(net, payer, route, amount, image, ends):
    """The tuple of the pairs (channel, LOCK) of a payment; Unfit() if route is none, or ends are not as many."""
    paying = sides(net, payer, route)
    if len(ends) != len(paying):
        raise Unfit()
    return tuple([(route[at], (paying[at], amount, frozen(image), ends[at])) for at in range(len(paying))])


def most_over(net, sheets, payer, route):
    """The least of the sums that the SIDES that pay have; Unfit() if route is none."""
    return min([sheets[channel][2][side] for channel, side in zip(route, sides(net, payer, route))])


def _longer(net, ways):
    """All pairs (route, PERSONS come to) that have one channel more than ways, in ascending order if these are."""
    return [
        (route + (channel,), people + (_leads_to(net, channel, people[-1]),))
        for route, people in ways
        for channel in channels_of(net, people[-1])
        if _leads_to(net, channel, people[-1]) not in people
    ]


def routes(net, payer, payee, most):
    """The list of all routes from payer to payee of at most most channels, short ones first."""
    found, ways = [], [((), (payer,))]
    for _ in range(most):
        ways = _longer(net, ways)
        if ways == []:
            break
        found.extend([route for route, people in ways if people[-1] == payee])
    return found


def routes_for(net, sheets, payer, payee, amount, most):
    """Those of routes over which amount can go."""
    return [route for route in routes(net, payer, payee, most) if most_over(net, sheets, payer, route) >= amount]


def _first(found):
    """The first one of found; CanNot() if there is none."""
    if found == []:
        raise CanNot()
    return found[0]


def shortest(net, payer, payee):
    """The first of all routes to payee; CanNot() if there is none."""
    return _first(routes(net, payer, payee, len(net)))


def best_route(net, sheets, payer, payee, amount):
    """The first of all routes to payee over which amount can go; CanNot() if there is none."""
    return _first(routes_for(net, sheets, payer, payee, amount, len(net)))


def widest(net, sheets, payer, payee):
    """The first of the routes to payee over which most can go; CanNot() if there is none."""
    found = routes(net, payer, payee, len(net))
    most = max([most_over(net, sheets, payer, route) for route in found], default=0)
    return _first([route for route in found if most_over(net, sheets, payer, route) == most])


def are_safe(times, ends):
    """Whether each end but the last one is enough for the next one."""
    return all([enough_gap(times, ends[at], ends[at + 1]) for at in range(len(ends) - 1)])


def last_looks(times, ends):
    """The tuple of the pairs (close_by, show_by) of ends."""
    return tuple([(close_by(times, end), show_by(times, end)) for end in ends])


def wish_for(times, route, amount, secret, moment, last):
    """The WISH to begin paying at moment, with the least ends that end with last."""
    ends = least_ends(times, len(route), last)
    return (moment, ("pay", frozen(route), amount, image_of(secret), ends))
