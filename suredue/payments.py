"""Payments: what becomes of the locks of an image, who gives and gets by it, and who was wronged."""

from suredue.errors import Unfit
from suredue.sheets import is_opened, lock_of, people_of, person_of, side_of
from suredue.values import is_below
from suredue.worlds import sealed_in


def people_on(net, payer, route):
    """The tuple of the PERSONS on a route, payer first; Unfit() if it does not lead on, channel by channel."""
    people = [payer]
    for channel in route:
        side = side_of(net, channel, people[-1]) if is_below(channel, len(net)) else None
        if side is None:
            raise Unfit()
        people.append(person_of(net, channel, 1 - side))
    return tuple(people)


def runs(sheets, image):
    """The tuple of the RUNS of image in a channel, (lock, first, behind), in order."""
    found, there, first = [], None, None
    for sheet in sheets:
        lock = lock_of(sheet, image)
        # A CHANGE adds a LOCK or takes one away: a LOCK is there in all SHEETS of its RUN and in none beside it.
        if there is not None and lock is None:
            found.append((there, first, sheet[1]))
        if there is None and lock is not None:
            first = sheet[1]
        there = lock
    if there is not None:
        found.append((there, first, None))
    return tuple(found)


def _went(sheets, run):
    """How a RUN went that is over: "paid" or "void"."""
    lock, _, behind = run
    taker = 1 - lock[0]
    return "paid" if sheets[behind][2][taker] > sheets[behind - 1][2][taker] else "void"


def _fate(sheets, place, moment, run):
    """The fate of a RUN."""
    lock, first, behind = run
    if place is None:
        return "open" if behind is None else _went(sheets, run)
    number = place[0][1]
    if number < first:
        return "void"
    if behind is not None and behind <= number:
        return _went(sheets, run)
    if is_opened(lock, place[2]):
        return "paid"
    return "void" if moment > lock[3] else "open"


def fates(sheets, place, moment, image):
    """The tuple of the fates of the RUNS of image."""
    return tuple([_fate(sheets, place, moment, run) for run in runs(sheets, image)])


def tally(sheets, place, moment, image):
    """The pair of what SIDE 0 and what SIDE 1 gives by image in a channel."""
    given = [0, 0]
    for run in runs(sheets, image):
        if _fate(sheets, place, moment, run) == "paid":
            given[run[0][0]] += run[0][1]
    return tuple(given)


def tallies_of(world, image):
    """For each PERSON the pair (gets, gives) by image, over the channels that have a steady PERSON."""
    net, steady, moment, ledger = world[0], world[2], world[3], world[4]
    many = max(people_of(net)) + 1
    gets, gives = [0] * many, [0] * many
    for channel in range(len(net)):
        people = net[channel][:2]
        if people[0] not in steady and people[1] not in steady:
            continue
        given = tally(sealed_in(world, channel), ledger[channel], moment, image)
        for side in (0, 1):
            gives[people[side]] += given[side]
            gets[people[1 - side]] += given[side]
    return tuple([(gets[person], gives[person]) for person in range(many)])


def wished(wishes, image):
    """What a PERSON with these WISHES wished to pay by image."""
    payments = [what for _, what in wishes if what[0] == "pay"]
    return sum([what[2] for what in payments if what[3][1] == image[1]])


def asked(asks, image):
    """The least amount with which a PERSON with these asks asks for the SECRET of image; None if it does not."""
    return min([amount for secret, amount in asks if secret == image[1]], default=None)


def _is_wronged(steady, asking, tallies, payee):
    """Whether payee, the only one that asks, gets too little though another steady one gives something."""
    gives = [tallies[person][1] for person in steady if person != payee]
    return tallies[payee][0] < asking[payee] and any([given > 0 for given in gives])


def breaches(steady, wishes, asks, tallies, image):
    """The pairs ("gives", person) of those who give too much, and ("asks", person) of one who asks and is wronged."""
    found = []
    for person in sorted(steady):
        gets, gives = tallies[person]
        if gives > gets + wished(wishes[person], image):
            found.append(("gives", person))
    asking = [asked(own, image) for own in asks]
    payees = [person for person in range(len(asking)) if asking[person] is not None]
    if len(payees) == 1 and payees[0] in steady and _is_wronged(steady, asking, tallies, payees[0]):
        found.append(("asks", payees[0]))
    return tuple(found)
