"""Plans: what is one and what is none, worlds, rows, ends and dues along them beside an own plain run."""

import collections
import unittest

import made_worlds
import plain_plans
from suredue import plans, worlds
from suredue.errors import Unfit
from support import FORMS, NO_TUPLE, bends, check_gives, check_raises, listed, put

NET, TIMES, CALM = ((0, 1, 10, 0),), (2, 3, 4), ((0, 0, 0), (0, 0, 0))
START = worlds.begun_world(NET, TIMES, (0,), (((2, ("leave", 0)),), ()), ((), ()), CALM)
CLOSE = ("close", (0, 0, (10, 0), ()))
NO_PLAN = (None, True, 7, "plan", ((),), (((), ()),) * 5, ((((), ()), None)), (((("late", 0),), ()),))


def play(seed, most=140, many_steady=None):
    """The first world and a plan of a made-up play, and its worlds."""
    make, args = made_worlds.begun(seed, many_steady)
    along, made = made_worlds.played(make, worlds.begun_world(*args), most)
    return along[0], tuple(made), along


class Given(unittest.TestCase):
    """Each function in every way in which it can be called."""

    def test_plans(self):
        for thing, told in (
            ((), True), ((((), ()),) * 4, True), ((((), ()),) * 5, False), ([], False), ([((), ())], False),
            (([(), ()],), False), (None, False), ((None,), False), ((((), ()), ((("late", 0),), ())), False),
            ((((), ()), ((), ()), ((), ()), ((("late", 0),), ())), True),
        ):
            check_gives(self, plans.is_plan, (START, thing), told)
            self.assertIs(plain_plans.played(START, thing) is not None, told)

    def test_first_unfit(self):
        for choices, told in (
            ((), None), ((((), ()),) * 4, None), ((((), ()),) * 5, 4), ((None,), 0), ((((), ()), "x"), 1), ((((), ()), 7, None), 1),
            ((((), ()),) * 3 + (((("late", 1),), ()),), 3), (((((),), ()),), 0), (plans.quiet_plan(START, 20), None),
        ):
            check_gives(self, plans.first_unfit, (START, choices), told)

    def test_quiet_and_swift(self):
        for many in (0, 1, 4, 6):
            rows = [((), ())] * 4 + [((("late", 0),), ()), ((), ())]
            check_gives(self, plans.quiet_plan, (START, many), tuple(rows[:many]))
            rows = [((), ())] * 3 + [((("late", 0),), ()), ((), ()), ((), ())]
            check_gives(self, plans.swift_plan, (START, many), tuple(rows[:many]))

    def test_played(self):
        for seed in range(5):
            world, plan, along = play(seed, 12)
            check_gives(self, plans.played, (world, plan), along)
            check_gives(self, plans.played_out, (world, plan), along[-1])
            check_gives(self, plans.rows_of, (world, plan), plain_plans.rows(along, plan))
            check_gives(self, plans.ends_of, (world, plan), plain_plans.ends(along[-1]))
            for person in world[2]:
                told = [plain_plans.due(one, person) for one in along]
                check_gives(self, plans.dues_along, (world, plan, person), told)
                fallen = tuple(at for at in range(len(plan)) if told[at + 1] < told[at])
                check_gives(self, plans.falls, (world, plan, person), fallen)
        check_gives(self, plans.played, (START, ()), [START])
        check_gives(self, plans.played_out, (START, ()), START)
        check_gives(self, plans.rows_of, (START, ()), ())
        check_gives(self, plans.ends_of, (START, ()), (0, 0))
        check_gives(self, plans.dues_along, (START, (), 0), [10])
        check_gives(self, plans.falls, (START, (), 0), ())

    def test_lists_are_new(self):
        plan = plans.quiet_plan(START, 3)
        for function, args in ((plans.played, (START, plan)), (plans.dues_along, (START, plan, 0))):
            one, other = function(*args), function(*args)
            self.assertIsNot(one, other)
            one.append(None)
            self.assertEqual(function(*args), other)

    def test_unfit(self):
        """What is no PLAN, and who is not steady."""
        for plan in NO_PLAN:
            for function in (plans.played, plans.played_out, plans.rows_of, plans.ends_of):
                check_raises(self, function, (START, plan), Unfit())
            for person in (0, 1, 5):
                check_raises(self, plans.dues_along, (START, plan, person), Unfit())
                check_raises(self, plans.falls, (START, plan, person), Unfit())
        for person in (1, 2, 9):
            check_raises(self, plans.dues_along, (START, (), person), Unfit())
            check_raises(self, plans.falls, (START, plans.quiet_plan(START, 3), person), Unfit())


class Steps(unittest.TestCase):
    def test_closed_at_once(self):
        """The close of the rest comes ahead of the own one, which does nothing then."""
        hasty = (((("own", CLOSE),), ()),)
        world = plans.played_out(START, hasty)
        self.assertEqual((world[3], world[4]), (1, (((0, 0, (10, 0), ()), 1, ()),)))
        later = hasty + plans.quiet_plan(world, 4)
        # At 3 0 sees that it is closed: it hands in nothing.
        self.assertEqual(plans.rows_of(START, later), ((CLOSE,), (), (), (), ()))
        self.assertEqual(plans.ends_of(START, later), (0, 0))
        self.assertEqual(plans.ends_of(START, later + plans.quiet_plan(plans.played_out(START, later), 1)), (10, 0))

    def test_a_fall_at_a_payment(self):
        """0 pays 3 to 1, who does not tell its secret: due falls by 3 when 0 seals the LOCK, and comes back behind it."""
        net, image = ((1, 0, 0, 10),), ("image", 7)
        wishes = (((1, ("pay", (0,), 3, image, (9,))),), ())
        world = worlds.begun_world(net, (1, 1, 1), (0,), wishes, ((), ((7, 1),)), CALM)
        told = plans.dues_along(world, plans.quiet_plan(world, 12), 0)
        self.assertEqual(told, [10] + [7] * 8 + [10] * 4)
        self.assertEqual(plans.falls(world, plans.quiet_plan(world, 12), 0), (0,))

    def test_dues_fall_with_too_little_wait(self):
        """Looks at 0, 3, ..: an elder SHEET of 4 is seen at 6; what answers it comes by 8, where 7 is the last moment."""
        world = worlds.begun_world(((0, 1, 0, 4),), (2, 3, 3), (0,), ((), ()), ((), ()), CALM)
        given = ("own", 1, 0, ("offer", (0, 1, (3, 1), ())))
        # SHEET 1 comes of SHEET 0 by no CHANGE: what gives 0 something is a LOCK that is paid.
        lent = ("own", 1, 0, ("offer", (0, 1, (0, 1), ((1, 3, ("image", 7), 90),))))
        paid = ("own", 1, 0, ("offer", (0, 3, (3, 1), ())))
        plan = (((), ()), ((), ()), ((), (lent, given)), ((), ()), ((), ()), ((), (("own", 1, 0, ("turn", 0, 1)),)))
        self.assertEqual(plans.first_unfit(world, plan), None)
        pages = worlds.sealed_in(plans.played_out(world, plan), 0)
        self.assertEqual([page[:3] for page in pages], [(0, 0, (0, 4)), (0, 1, (0, 1)), (0, 2, (0, 1))])
        agreed = ((), (("own", 1, 0, ("agree", pages[2])), paid))
        plan += (((), ()), ((), ()), agreed, ((("own", ("close", pages[0])),), ()))
        last = plans.played_out(world, plan)
        plan += plans.quiet_plan(last, 12)
        told = plans.dues_along(world, plan, 0)
        self.assertEqual((told[8], told[9], told[10], plans.ends_of(world, plan)), (0, 3, 0, (0, 4)))
        self.assertEqual(plans.falls(world, plan, 0), (9,))


class BesidePlain(unittest.TestCase):
    def test_plays(self):
        seen = collections.Counter()
        for seed in range(6000, 6030):
            world, plan, along = play(seed)
            told = plain_plans.played(world, plan)
            self.assertEqual(plans.played(world, plan), told)
            self.assertEqual(along, told)
            self.assertEqual(plans.rows_of(world, plan), plain_plans.rows(told, plan))
            self.assertEqual(plans.ends_of(world, plan), plain_plans.ends(told[-1]))
            self.assertIs(plans.is_plan(world, plan), True)
            for person in world[2]:
                dues = [plain_plans.due(one, person) for one in told]
                self.assertEqual(plans.dues_along(world, plan, person), dues)
                fallen = tuple(at for at in range(len(plan)) if dues[at + 1] < dues[at])
                self.assertEqual(plans.falls(world, plan, person), fallen)
                seen["fall"] += fallen != ()
            for at, one in enumerate(told):
                # Nothing that was handed in is on the way longer than delay moments.
                self.assertEqual(one[3], world[3] + at)
                self.assertTrue(all(one[3] < last <= one[3] + one[1][0] for _, _, last in one[8]))
        self.assertGreater(seen["fall"], 5)

    def test_parts_and_two_behind_each_other(self):
        for seed in range(6100, 6112):
            world, plan, along = play(seed, 30)
            for at in range(0, len(plan) + 1, 5):
                self.assertIs(plans.is_plan(world, plan[:at]), True)
                self.assertEqual(plans.played_out(world, plan[:at]), along[at])
                self.assertIs(plans.is_plan(along[at], plan[at:]), True)
                self.assertEqual(plans.played_out(along[at], plan[at:]), along[-1])
                both = plan[:at] + plans.swift_plan(along[at], 7)
                self.assertIs(plans.is_plan(world, both), True)
                self.assertEqual(plans.played_out(world, both), plans.played_out(along[at], both[at:]))

    def test_quiet_and_swift_plans(self):
        for seed in range(6200, 6212):
            world, _, along = play(seed, 15)
            for function, choose in ((plans.quiet_plan, worlds.quiet), (plans.swift_plan, worlds.swift)):
                plan, now = function(along[-1], 25), along[-1]
                self.assertEqual(len(plan), 25)
                for choice in plan:
                    self.assertEqual(choice, choose(now))
                    now = worlds.next_world(now, choice)

    def test_bent_plans(self):
        seen = collections.Counter()
        for seed in range(6300, 6320):
            world, plan, _ = play(seed, 8)
            # The plain telling counts up to each end: no great ones.
            bent = [thing for thing in bends(plan) if "00000" not in repr(thing)]
            for thing in bent[::60] + list(NO_TUPLE):
                told = plain_plans.played(world, thing)
                self.assertIs(plans.is_plan(world, thing), told is not None, thing)
                seen[told is not None] += 1
                for form in FORMS[:2]:
                    made = form(thing)
                    if isinstance(made, (tuple, list)):
                        self.check_first_unfit(world, made)
        self.assertGreater(min(seen.values()), 40, seen)

    def check_first_unfit(self, world, thing):
        """Beside the plain telling, where lists are tuples."""
        tupled = tuple(made_tuple(part) for part in thing)
        fit = 0
        while fit < len(tupled) and plain_plans.played(world, tupled[:fit + 1]) is not None:
            fit += 1
        told = plans.first_unfit(world, thing)
        self.assertEqual(told, None if fit == len(tupled) else fit)
        if told is None:
            self.assertEqual(plans.played(world, thing), plain_plans.played(world, tupled))
        else:
            self.assertRaises(Unfit, plans.played, world, thing)


def made_tuple(thing):
    """The thing with tuples for its lists."""
    return tuple(made_tuple(part) for part in thing) if isinstance(thing, (list, tuple)) else thing


class Lists(unittest.TestCase):
    def test_worlds_of_lists(self):
        world, plan, along = play(6400, 10)
        self.assertEqual(plans.played(listed(world), listed(plan)), along)
        self.assertIs(plans.is_plan(listed(world), plan), True)
        self.assertIs(plans.is_plan(world, put(plan, (3,), listed(plan[3]))), False)


if __name__ == "__main__":
    unittest.main()
