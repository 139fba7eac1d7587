"""Takings: moments, rows, ends and dues of each kind as the document tells; the same plays with enough take nothing."""

import itertools
import unittest

import made_worlds
import plain_plans
from suredue import clocks, plans, takings, worlds
from suredue.errors import Unfit
from suredue.ledger import is_settled
from support import NO_TUPLE, bends, check_gives, check_raises, listed, outcomes

KINDS = ("wait", "gap", "go", "show")
SEVEN = ("image", 7)
CALM = (0, 0, 0)
ALL = tuple(itertools.product(range(1, 5), range(1, 5)))


def told(kind, delay, look):
    """(net, times, asks, cares, out end, in end) as the document tells them."""
    wait = delay + look - 1 - (kind == "wait")
    out_end = look * (5 + delay) + 1
    in_end = clocks.least_in_end((delay, look, wait), out_end) - (kind == "gap")
    passed = kind in ("gap", "go")
    net = ((0, 1, 0, 1), (2, 0, 0, 1)) if passed else ((0, 1, 0, 1),)
    asks = ((), (), ((7, 1),)) if passed else (((7, 1),), ())
    cares = ((int(kind == "gap"), int(kind == "go"), int(kind == "show")),) + (CALM,) * (len(asks) - 1)
    return net, (delay, look, wait), asks, cares, out_end, in_end


def lent(channel, end):
    return (channel, 1, (0, 0), ((1, 1, SEVEN, end),))


class Each(unittest.TestCase):
    def test_worlds(self):
        for kind, (delay, look) in itertools.product(KINDS, ALL):
            net, times, asks, cares, _, _ = told(kind, delay, look)
            world = worlds.begun_world(net, times, (0,), ((),) * len(asks), asks, cares)
            self.assertEqual(takings.taking(kind, delay, look)[0], world)

    def test_choices(self):
        """Letters at moment look alone; own DEEDS at their last moments, in order; the deeds of the rest behind these."""
        for kind, (delay, look) in itertools.product(KINDS, ALL):
            _, _, _, _, out_end, in_end = told(kind, delay, look)
            world, plan = takings.taking(kind, delay, look)
            letters = (("own", 1, 0, ("offer", lent(0, in_end))),)
            if kind in ("gap", "go"):
                letters += (("own", 1, 0, ("pass", 0, SEVEN, (1,), (out_end,))),)
            deeds = {}
            if kind == "wait":
                deeds[look + 1] = (("own", ("close", (0, 0, (0, 1), ()))),)
            if kind in ("gap", "go"):
                deeds[out_end] = (("own", ("close", lent(1, out_end))), ("own", ("show", 1, 7)))
            for at, one in enumerate(plans.played(world, plan)[:-1]):
                late = tuple(("late", place) for place, part in enumerate(one[8]) if part[2] == at + 1)
                self.assertEqual(plan[at], (late + deeds.get(at + 1, ()), letters if at + 1 == look else ()))

    def test_last_moment(self):
        """The first one at which all channels are settled."""
        for kind, (delay, look) in itertools.product(KINDS, ALL):
            world, plan = takings.taking(kind, delay, look)
            along = plans.played(world, plan)
            for at, one in enumerate(along):
                settled = all(is_settled(one[4], one[1], channel, at) for channel in range(len(one[0])))
                self.assertIs(settled, at == len(plan))

    def test_what_is_taken(self):
        """1 of PERSON 0, in all of them; nobody else has less."""
        for kind, (delay, look) in itertools.product(KINDS, ALL):
            world, plan = takings.taking(kind, delay, look)
            self.assertEqual(takings.takes_from(world, plan), (0,), (kind, delay, look))
            self.assertIs(takings.is_taking(world, plan), True)
            ends, dues = plans.ends_of(world, plan), plans.dues_along(world, plan, 0)
            self.assertEqual((ends, max(dues)), ((0, 1, 1) if len(ends) == 3 else (0, 1), 1))

    def test_beside_a_plain_run(self):
        for kind, (delay, look) in itertools.product(KINDS, ((1, 1), (2, 3), (3, 2))):
            world, plan = takings.taking(kind, delay, look)
            along = plain_plans.played(world, plan)
            self.assertEqual(plans.played(world, plan), along)
            self.assertEqual(plans.dues_along(world, plan, 0), [plain_plans.due(one, 0) for one in along])
            self.assertEqual(plain_plans.takes(world, plan), (0,))

    def test_rows_of_wait(self):
        """The elder SHEET comes a moment behind a look; its own one, handed in at the next look, comes too late."""
        for delay, look in ALL:
            world, plan = takings.taking("wait", delay, look)
            rows = dict(enumerate(plans.rows_of(world, plan), 1))
            self.assertEqual(rows[look + 1], (("close", (0, 0, (0, 1), ())),))
            _, (_, _, wait), _, _, _, in_end = told("wait", delay, look)
            # The window ends ahead of what it hands in: at look + 1 + wait. Without a wait it hands in nothing.
            self.assertLess(look + 1 + wait, 2 * look + delay)
            self.assertEqual(plans.played_out(world, plan)[4][0][0], (0, 0, (0, 1), ()))
            own = [moment for moment in rows if ("close", lent(0, in_end)) in rows[moment]]
            self.assertEqual(own, [2 * look + delay] if wait >= look else [])

    def test_rows_of_show(self):
        """It closes in time, and shows a look later than the last one: too late."""
        for delay, look in ALL:
            world, plan = takings.taking("show", delay, look)
            _, times, _, _, _, in_end = told("show", delay, look)
            rows = dict(enumerate(plans.rows_of(world, plan), 1))
            close = [moment for moment in rows if ("close", lent(0, in_end)) in rows[moment]]
            show = [moment for moment in rows if ("show", 0, 7) in rows[moment]]
            self.assertEqual(close, [clocks.close_by(times, in_end) + delay])
            # The show comes when it is too late, or is still on the way when all is settled, if it is handed in.
            later = clocks.show_by(times, in_end) + look
            waiting = [last for _, deed, last in plans.played_out(world, plan)[8] if deed == ("show", 0, 7)]
            self.assertEqual((show + waiting)[:1], [later + delay] if later < in_end else [])
            self.assertGreater(later + delay, in_end)
            self.assertEqual(len(plan), max(in_end, close[0] + times[2]) + 1)


def mended(kind, delay, look):
    """The world of a taking with enough wait and CARES (0, 0, 0)."""
    net, times, asks, cares, _, _ = told(kind, delay, look)
    times = (delay, look, clocks.least_wait(delay, look))
    return worlds.begun_world(net, times, (0,), ((),) * len(asks), asks, (CALM,) * len(cares))


def played_like(world, plan):
    """What the rest does by plan, in another world: own DEEDS come at their last moments. All till it is settled."""
    made = ()
    for choice in plan + (((), ()),) * 60:
        # With "gap" mended nothing is passed on, and so there is no SHEET with a LOCK out.
        own = tuple(part for part in choice[0] if part[0] == "own" and worlds.can_do(world, part[1]))
        made += ((worlds.quiet(world)[0] + own, choice[1]),)
        world = worlds.next_world(world, made[-1])
    return made


class WithEnough(unittest.TestCase):
    def test_the_same_plays_take_nothing(self):
        for kind, (delay, look) in itertools.product(KINDS, ALL):
            _, plan = takings.taking(kind, delay, look)
            world = mended(kind, delay, look)
            other = played_like(world, plan)
            self.assertEqual(takings.takes_from(world, other), (), (kind, delay, look))
            self.assertEqual(plans.falls(world, other, 0), ())
            last = plans.played_out(world, other)
            # Where the LOCK in is there, its SHEET lies in the end; with "gap" nothing is passed on.
            if kind != "gap":
                self.assertEqual((last[4][0][0][1], plans.ends_of(world, other)[0]), (1, 1))

    def test_made_up_plays_take_nothing(self):
        for seed in range(7000, 7040):
            make, args = made_worlds.begun(seed)
            along, made = made_worlds.played(make, worlds.begun_world(*args))
            self.assertEqual(takings.takes_from(along[0], tuple(made)), ())

    def test_own_payments_are_not_taken(self):
        """0 pays 3 to 1: it has less in the end than was due, but by its own payment."""
        wishes, asks = (((1, ("pay", (0,), 3, SEVEN, (30,))), (20, ("leave", 0))), ()), ((), ((7, 3),))
        world = worlds.begun_world(((1, 0, 0, 10),), (1, 1, 1), (0, 1), wishes, asks, (CALM, CALM))
        plan = plans.swift_plan(world, 30)
        self.assertEqual(plans.ends_of(world, plan), (7, 3))
        self.assertEqual(plans.dues_along(world, plan, 0)[0], 10)
        self.assertEqual(takings.takes_from(world, plan), ())

    def test_only_where_all_is_settled(self):
        world, plan = takings.taking("gap", 2, 3)
        for at in range(len(plan)):
            self.assertEqual(takings.takes_from(world, plan[:at]), ())
            self.assertIs(takings.is_taking(world, plan[:at]), False)
        longer = plan + plans.quiet_plan(plans.played_out(world, plan), 5)
        self.assertEqual(takings.takes_from(world, longer), (0,))

    def test_payments_that_are_begun_only(self):
        """The play of "wait" with a wish: nothing is paid by it, but where it was begun this is no taking."""
        delay, look = 2, 3
        in_end = told("wait", delay, look)[5]
        offer = ("own", 1, 0, ("offer", (0, 1, (1, 0), ((1, 1, SEVEN, in_end),))))
        close = ("own", ("close", (0, 0, (1, 1), ())))
        for amount, moment, wanted in ((1, 0, ()), (2, 0, (0,)), (1, 9, (0,))):
            wishes = (((moment, ("pay", (0,), amount, ("image", 9), (60,))),), ())
            world = worlds.begun_world(((0, 1, 1, 1),), (2, 3, 3), (0,), wishes, (((7, 1),), ()), (CALM, CALM))
            plan = (((), ()), ((), ()), ((), (offer,)), ((close,), ()))
            plan += plans.quiet_plan(plans.played_out(world, plan), 60)
            self.assertEqual(plans.ends_of(world, plan), (1, 1))
            self.assertEqual(takings.takes_from(world, plan), wanted)
            self.assertEqual(plain_plans.takes(world, plan), wanted)


class Given(unittest.TestCase):
    def test_taking(self):
        for kind in KINDS:
            world, plan = takings.taking(kind, 1, 2)
            self.assertEqual(outcomes(self, takings.taking, (kind, 1, 2)), repr((world, plan)))
            check_gives(self, takings.takes_from, (world, plan), (0,))
            check_gives(self, takings.takes_from, (world, ()), ())
            check_gives(self, takings.is_taking, (world, plan), True)
            check_gives(self, takings.is_taking, (world, listed(plan)), False)
            check_gives(self, takings.is_taking, (world, ()), False)

    def test_unfit(self):
        for kind in ("", "more", "Wait", "waits", None, 0, ("wait",), ["wait"]):
            check_raises(self, takings.taking, (kind, 2, 3), Unfit())
        world, plan = takings.taking("wait", 1, 2)
        for thing in (None, 7, "plan", ((),), plan + (None,), plan[:1] + plan):
            check_raises(self, takings.takes_from, (world, thing), Unfit())
            check_gives(self, takings.is_taking, (world, thing), False)

    def test_bent_plans(self):
        """Beside the plain telling; also plans of which a part was left out, or where letters and deeds are missing."""
        seen = {True: 0, False: 0}
        for kind, step in zip(KINDS, (3, 41, 41, 9)):
            world, plan = takings.taking(kind, 1, 1)
            bent = [thing for thing in bends(plan) if "00000" not in repr(thing)]
            for thing in bent[::step] + [plan] + list(NO_TUPLE):
                wanted = plain_plans.is_taking(world, thing)
                self.assertIs(takings.is_taking(world, thing), wanted, thing)
                seen[wanted] += 1
        self.assertGreater(min(seen.values()), 15, seen)


if __name__ == "__main__":
    unittest.main()
