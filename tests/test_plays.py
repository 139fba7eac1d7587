"""Plays: payments over rows of steady people, one steady person against the rest, and what one less takes."""

import collections
import itertools
import random
import unittest

import made_worlds
from suredue import clocks, minds, worlds
from suredue.ledger import has_in, is_settled

CALM = (0, 0, 0)
SEVEN = ("image", 7)
KINDS = ("wait", "gap", "go", "show")


def ended(world, person):
    """What person has in its channels, which are all closed, if nothing more comes."""
    net, ledger = world[0], world[4]
    return sum(
        has_in(net, ledger, channel)[side]
        for channel in range(len(net)) for side in (0, 1) if net[channel][side] == person
    )


class Row:
    """A payment over a row of steady persons, 0 first; each channel stands either way."""

    def __init__(self, seed):
        make = self.make = random.Random(seed)
        self.many = make.randint(1, 4)
        delay, look = make.randint(1, 3), make.randint(1, 3)
        self.times = (delay, look, clocks.least_wait(delay, look))
        self.amount = make.randint(2, 5)
        self.sums = [make.randint(self.amount, 9) for _ in range(self.many)]
        self.asked = make.randint(1, self.amount)
        self.asks = ((7, self.asked),)
        # Some payments ahead of it, so that either side may be in turn.
        self.others = [(make.randrange(self.many), make.randint(0, 5), own) for own in range(make.randint(0, 3))]
        self.begin, self.turned = 40 * look, [make.random() < 0.5 for _ in range(self.many)]
        self.ends = clocks.least_ends(self.times, self.many, self.begin + 60 * look + make.randint(0, 9))

    def widen(self):
        """Has gaps that leave time for a LOCK to be dropped before the one ahead of it must be closed for."""
        ends = self.ends[-1:]
        while len(ends) < self.many:
            ends = (clocks.least_in_end(self.times, ends[0]) + self.times[1] * self.make.randint(4, 6),) + ends
        self.ends = ends

    def net(self):
        found = []
        for own in range(self.many):
            channel = (own, own + 1, self.sums[own], 5)
            found.append((channel[1], channel[0], channel[3], channel[2]) if self.turned[own] else channel)
        return tuple(found)

    def begun(self, leave=None):
        people = range(self.many + 1)
        wishes = [[] for _ in people]
        for channel, moment, own in self.others:
            # These are paid by the next one to the one ahead of it.
            wishes[channel + 1].append((moment, ("pay", (channel,), 1, ("image", 20 + own), (self.begin,))))
        wishes[0].append((self.begin, ("pay", tuple(range(self.many)), self.amount, SEVEN, self.ends)))
        if leave is not None:
            for own in people:
                mine = [channel for channel in (own - 1, own) if 0 <= channel < self.many]
                wishes[own].extend((leave, ("leave", channel)) for channel in mine)
        asks = [tuple((20 + other, 1) for channel, _, other in self.others if channel == own) for own in people]
        asks[self.many] = self.asks
        wishes, cares = tuple(tuple(own) for own in wishes), (CALM,) * len(people)
        return worlds.begun_world(self.net(), self.times, tuple(people), wishes, tuple(asks), cares)

    def choice(self, world):
        """All letters come by the next look, some of them twice, in whatever order."""
        last = clocks.look_by(self.times, world[3])
        fresh = [place for place, part in enumerate(world[7]) if part[3] == last]
        if (world[3] + 1) % self.times[1]:
            fresh = self.make.sample(fresh, self.make.randint(0, len(fresh)))
        fresh += self.make.sample(fresh, self.make.randint(0, len(fresh)) // 2)
        self.make.shuffle(fresh)
        row = [("late", place) for place in range(len(world[8])) if self.make.random() < 0.3]
        row = sorted(set(row) | set(worlds.quiet(world)[0]))
        return (tuple(row), tuple(("sent", place) for place in fresh))

    def played(self, world, last):
        while world[3] < last:
            world = worlds.next_world(world, self.choice(world))
        return world


class Rows(unittest.TestCase):
    def sums(self, row, world):
        """For each channel the sums of the one ahead and of the one behind, in the newest sheets; no locks are left."""
        found = []
        for channel in range(row.many):
            pages = [minds.held_by(world[5][own])[channel] for own in (channel, channel + 1)]
            self.assertEqual([page[3] for page in pages], [(), ()])
            self.assertEqual(pages[0][2], pages[1][2])
            found.append(pages[0][2][::-1] if row.turned[channel] else pages[0][2])
        return found

    def check(self, row, paid):
        """It is paid whole, or all is as it was; the payer knows the secret exactly if it paid; nobody closes."""
        before = row.played(row.begun(), row.begin - 1)
        behind = row.played(before, max(row.ends) + 12 * row.times[1])
        self.assertEqual((behind[4], behind[8]), ((None,) * row.many, ()))
        moved = row.amount if paid else 0
        expected = [(one - moved, other + moved) for one, other in self.sums(row, before)]
        self.assertEqual(self.sums(row, behind), expected)
        self.assertIs(7 in minds.known_by(behind[5][0]), paid)
        if not paid:
            self.assertFalse(any(7 in minds.known_by(mind) for mind in behind[5]))

    def test_paid_whole(self):
        for seed in range(60):
            row = Row(seed)
            if seed % 2:
                row.widen()
            self.check(row, True)

    def test_nothing_is_paid(self):
        """The payee does not ask, or for more; a sum is too little; a gap is; it is begun too late."""
        for seed in range(100):
            row = Row(seed)
            row.widen()
            at = row.make.randrange(row.many)
            if seed % 5 == 0:
                row.asks = ()
            elif seed % 5 == 1:
                row.asks = ((7, row.amount + 1),)
            elif seed % 5 == 2:
                row.sums[at], row.others = row.amount - 1, []
            elif seed % 5 == 3 and row.many > 1:
                at = max(at, 1)
                small = clocks.least_in_end(row.times, row.ends[at]) - 1
                row.ends = row.ends[:at - 1] + (small,) + row.ends[at:]
            else:
                row.begin = clocks.close_by(row.times, row.ends[-1]) + 1
            self.check(row, False)

    def test_with_the_least_gaps(self):
        """If nobody asks, one between may have to close, since what it pays may still be opened: nothing is lost."""
        closed = 0
        for seed in range(60):
            row = Row(seed)
            row.asks, row.others = (), []
            last = max(row.ends) + 12 * row.times[1]
            world = row.played(row.begun(leave=last), last)
            closed += world[4] != (None,) * row.many
            world = row.played(world, last + 60)
            for channel in range(row.many):
                self.assertTrue(is_settled(world[4], row.times, channel, world[3]))
                self.assertEqual(has_in(world[0], world[4], channel), world[0][channel][2:])
        self.assertGreater(closed, 10)


class Against(unittest.TestCase):
    """Steady persons against the rest: each ends with no less than it began with, but for its own payments."""

    def paid(self, wishes):
        """What the payments of a person that were wished come to."""
        return sum(what[2] for _, what in wishes if what[0] == "pay")

    def tell(self, seen, along, made):
        """Counts what came about in a play."""
        last = along[-1]
        seen["elder"] += any(
            entry is not None and entry[0][1] > own[0][1]
            for world in along for own, entry in zip(world[4], last[4]) if own is not None
        )
        seen["passed"] += any(pair[0] is not None for mind in last[5] for pair in mind[8])
        shut = [entry for entry in last[4] if entry is not None]
        seen["shown"] += any(entry[2] for entry in shut)
        # A LOCK that was opened at its end.
        seen["last"] += any((lock[2][1], lock[3]) in entry[2] for entry in shut for lock in entry[0][3])
        seen["doubled"] += any(len(set(letters)) < len(letters) for _, letters in made)
        for world, choice in zip(along, made):
            for place in (part[1] for part in choice[0] if part[0] == "late"):
                seen["late", world[1][0] - world[8][place][2] + world[3] + 1] += 1

    def check(self, seeds, many_steady):
        seen = collections.Counter()
        for seed in seeds:
            make, args = made_worlds.begun(seed, many_steady)
            along, made = made_worlds.played(make, worlds.begun_world(*args))
            self.assertTrue(made_worlds.is_over(along[-1]))
            self.tell(seen, along, made)
            for person in args[2]:
                first, paid = made_worlds.has_at_first(along[0], person), self.paid(args[3][person])
                self.assertGreaterEqual(ended(along[-1], person), first - paid, (seed, person))
                seen["alone"] += paid == 0
                seen["more"] += ended(along[-1], person) > first
        for word in ("elder", "passed", "shown", "last", "alone", "more", ("late", 1), ("late", 2), ("late", 3)):
            self.assertGreater(seen[word], 10, seen)
        return seen

    def test_one_alone(self):
        self.check(range(1000, 1300), 1)

    def test_several(self):
        seen = self.check(range(2000, 2200), None)
        self.assertGreater(seen["doubled"], 50, seen)


class Taking:
    """One steady person, 0, and a rest that goes for 1 of it: with all as it should be, or with one less."""

    def __init__(self, kind, delay, look, less, cares=None):
        self.kind = kind
        wait = clocks.least_wait(delay, look) - (less if kind == "wait" else 0)
        self.times = (delay, look, wait)
        self.out_end = look * (5 + delay) + 1
        self.in_end = clocks.least_in_end(self.times, self.out_end) - (less if kind == "gap" else 0)
        self.passing = kind in ("gap", "go")
        net = ((0, 1, 0, 1), (2, 0, 0, 1)) if self.passing else ((0, 1, 0, 1),)
        asks = ((), (), ((7, 1),)) if self.passing else (((7, 1),), ())
        own = tuple(less if kind == name else 0 for name in KINDS[1:]) if cares is None else cares
        everyone = (own,) + (CALM,) * (len(asks) - 1)
        self.world = worlds.begun_world(net, self.times, (0,), ((),) * len(asks), asks, everyone)

    def deeds(self, moment):
        """The deeds of the rest at moment."""
        if self.kind == "wait" and moment == self.times[1] + 1:
            return [("close", (0, 0, (0, 1), ()))]
        if self.passing and moment == self.out_end:
            return [("close", (1, 1, (0, 0), ((1, 1, SEVEN, self.out_end),))), ("show", 1, 7)]
        return []

    def letters(self, moment):
        """The letters of the rest that come at moment."""
        if moment != self.times[1]:
            return []
        found = [("offer", (0, 1, (0, 0), ((1, 1, SEVEN, self.in_end),)))]
        return found + ([("pass", 0, SEVEN, (1,), (self.out_end,))] if self.passing else [])

    def step(self):
        moment = self.world[3] + 1
        row = worlds.quiet(self.world)[0] + tuple(("own", deed) for deed in self.deeds(moment))
        letters = tuple(("own", 1, 0, letter) for letter in self.letters(moment))
        self.world = worlds.next_world(self.world, (row, letters))

    def is_over(self):
        _, times, _, moment, ledger = self.world[:5]
        return all(is_settled(ledger, times, channel, moment) for channel in range(len(ledger)))

    def end(self):
        """What 0 ends with, and at which moment all is settled."""
        while not self.is_over():
            self.step()
        return ended(self.world, 0), self.world[3]


class OneLess(unittest.TestCase):
    ALL = tuple(itertools.product(range(1, 5), range(1, 5)))

    def test_the_least_is_enough(self):
        for kind, (delay, look) in itertools.product(KINDS, self.ALL):
            self.assertEqual(Taking(kind, delay, look, 0).end()[0], 1, (kind, delay, look))

    def test_one_less_is_not(self):
        for kind, (delay, look) in itertools.product(KINDS, self.ALL):
            self.assertEqual(Taking(kind, delay, look, 1).end()[0], 0, (kind, delay, look))

    def test_when_it_is_over(self):
        for kind, last in (("wait", 8), ("gap", 27)):
            self.assertEqual(Taking(kind, 2, 3, 1).end(), (0, last))

    def test_who_keeps_the_rules_does_not_pass_on_with_one_less(self):
        for delay, look in self.ALL:
            play = Taking("gap", delay, look, 1, CALM)
            while play.world[3] + 1 < play.out_end:
                play.step()
            self.assertEqual(minds.held_by(play.world[5][0])[1], (1, 0, (0, 1), ()))
            self.assertEqual([page for page in minds.given_by(play.world[5][0]) if page[0] == 1], [(1, 0, (0, 1), ())])
            self.assertFalse(worlds.can_do(play.world, play.deeds(play.out_end)[0]))


if __name__ == "__main__":
    unittest.main()
