"""Takings: plans of the rest that take something from one whose wait, gap or looks are one too few."""

from suredue.clocks import least_in_end, least_wait
from suredue.dues import due
from suredue.errors import Unfit
from suredue.ledger import is_settled
from suredue.plans import ends_of, is_plan, played
from suredue.sheets import channels_of, first_sheet, image_of
from suredue.worlds import begun_world, next_world, quiet

_KINDS = ("wait", "gap", "go", "show")
_SECRET = 7


def _own_pairs(world, place):
    """The list of the pairs with None, payments of its own, of the steady PERSON at this place."""
    return [pair for pair in world[5][place][8] if pair[0] is None]


def _are_settled(world, channels):
    """Whether these channels are settled in world."""
    return all([is_settled(world[4], world[1], channel, world[3]) for channel in channels])


def takes_from(world, plan):
    """The set of the PERSONS from whom plan takes; Unfit() if it is no PLAN for world."""
    along, ends = played(world, plan), ends_of(world, plan)
    net, steady, found = along[0][0], along[0][2], []
    for place in range(len(steady)):
        person = steady[place]
        if any([_own_pairs(there, place) != [] for there in along]):
            continue
        most = max([due(there, person) for there in along])
        if _are_settled(along[-1], channels_of(net, person)) and ends[person] < most:
            found.append(person)
    return tuple(found)


def is_taking(world, thing):
    """Whether thing is a PLAN for world that takes from somebody."""
    return is_plan(world, thing) and takes_from(world, thing) != ()


class Taker:
    """The rest of the taking of a kind."""

    def __init__(self, kind, delay, look):
        self.kind = kind
        self.is_passed_on = kind in ("gap", "go")
        self.times = (delay, look, least_wait(delay, look) - (1 if kind == "wait" else 0))
        self.out_end = look * (5 + delay) + 1
        self.in_end = least_in_end(self.times, self.out_end) - (1 if kind == "gap" else 0)

    def begun(self):
        """The WORLD in which it begins."""
        ask = ((_SECRET, 1),)
        net = ((0, 1, 0, 1), (2, 0, 0, 1)) if self.is_passed_on else ((0, 1, 0, 1),)
        asks = ((), (), ask) if self.is_passed_on else (ask, ())
        own = tuple([1 if self.kind == word else 0 for word in _KINDS[1:]])
        cares = (own,) + ((0, 0, 0),) * (len(asks) - 1)
        return begun_world(net, self.times, (0,), ((),) * len(asks), asks, cares)

    def lent(self, channel, end):
        """The SHEET with the one LOCK, by which all of a channel is lent."""
        return (channel, 1, (0, 0), ((1, 1, image_of(_SECRET), end),))

    def deeds(self, net, moment):
        """The tuple of the DEEDS of the rest at moment."""
        if self.kind == "wait" and moment == self.times[1] + 1:
            return (("close", first_sheet(net, 0)),)
        if self.is_passed_on and moment == self.out_end:
            return (("close", self.lent(1, self.out_end)), ("show", 1, _SECRET))
        return ()

    def letters(self, moment):
        """The tuple of the LETTERS of PERSON 1 that come at moment."""
        if moment != self.times[1]:
            return ()
        offer = ("offer", self.lent(0, self.in_end))
        told = ("pass", 0, image_of(_SECRET), (1,), (self.out_end,))
        return (offer, told) if self.is_passed_on else (offer,)

    def choice(self, world):
        """The CHOICE in world."""
        moment = world[3] + 1
        row = quiet(world)[0] + tuple([("own", deed) for deed in self.deeds(world[0], moment)])
        return (row, tuple([("own", 1, 0, letter) for letter in self.letters(moment)]))


def taking(kind, delay, look):
    """The pair (world, plan) of the taking of a kind; Unfit() if there is no such kind."""
    if kind not in _KINDS:
        raise Unfit()
    taker = Taker(kind, delay, look)
    world = there = taker.begun()
    plan = ()
    while not _are_settled(there, list(range(len(there[0])))):
        plan = plan + (taker.choice(there),)
        there = next_world(there, plan[-1])
    return (world, plan)
