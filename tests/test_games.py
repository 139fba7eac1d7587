"""Games: plans and what they end with, least ends beside a plain going through, what trying tells."""

import collections
import itertools
import random
import unittest

import plain_games
from suredue import clocks, games
from suredue.errors import CanNot, Unfit
from support import NO_TUPLE, bends, check_gives, check_raises, outcomes, put

LATE = ("channel", (2, 3, 3), (4, 9, 6), 8)
PLAN = ((("close", "in", 0),), (), (), (), (("late", "in"),), (), (), ())
NONE = ((),) * 8
# Looks at each moment; the rest opens the LOCK out at 3, 0 sees it there and shows it by 5.
MIDDLE = ("middle", (2, 1, 2), 5, 5, 3, 7)


def row_at(plan, moment, *events):
    """The plan with these events, alone, at a moment."""
    return put(plan, (moment - 1,), events)


def drawn(make, most=7):
    """A small game."""
    times = (make.randint(1, 3), make.randint(1, 3), make.randint(0, 4))
    if make.random() < 0.6:
        return ("channel", times, tuple(make.randint(0, 9) for _ in range(make.randint(1, 4))), make.randint(0, most))
    return ("middle", times, make.randint(1, 3), make.randint(0, 8), make.randint(0, 4), make.randint(0, most))


def drawn_plan(make, game):
    """A plan of game, drawn event by event."""
    table, plan = plain_games.Table(game), []
    for _ in range(game[-1]):
        table.moment += 1
        row = []
        while table.must() or make.random() < 0.5:
            late = [("late", what) for what in table.must()]
            found = late if late and make.random() < 0.5 else table.events()
            if not found:
                break
            row.append(make.choice(found))
            table.take(row[-1])
        table.see()
        plan.append(tuple(row))
    return tuple(plan)


class Channel(unittest.TestCase):
    def check(self, plan, told, game=LATE):
        """told is what is had behind plan, None if it is none."""
        self.assertIs(games.is_game_plan(game, plan), told is not None, plan)
        table = plain_games.behind_plan(game, plan)
        self.assertEqual(None if table is None else table.end(), told)
        if told is None:
            self.assertRaises(Unfit, games.ended, game, plan)
        else:
            self.assertEqual(games.ended(game, plan), told)

    def test_late_deeds(self):
        """Handed in at 3, the newest comes at 4 or 5; the window ends at 4."""
        self.check(PLAN, 4)
        self.check(row_at(row_at(PLAN, 5), 4, ("late", "in")), 6)
        for moment in (1, 2, 3, 6, 8):
            self.check(row_at(row_at(PLAN, 5), moment, ("late", "in")), None)
        self.check(row_at(PLAN, 5), None)
        self.check(row_at(PLAN, 5, ("late", "in"), ("late", "in")), None)
        self.check(row_at(PLAN, 5, ("late", "out")), None)
        self.check(row_at(NONE, 5, ("late", "in")), None)

    def test_closes(self):
        self.check(NONE, 6)
        # One higher comes in the window; the newest one needs no answer.
        self.check(row_at(PLAN, 2, ("close", "in", 1)), 9)
        self.check(row_at(PLAN, 1, ("close", "in", 1), ("close", "in", 0)), 9)
        self.check(row_at(PLAN, 4, ("close", "in", 1)), 9)
        self.check(row_at(PLAN, 5, ("late", "in"), ("close", "in", 1)), 4)
        self.check(row_at(NONE, 1, ("close", "in", 2)), 6)
        self.check(row_at(row_at(PLAN, 5), 2, ("close", "in", 2)), 6)

    def test_when_closes_can_stand(self):
        """The wait is 3 and there are 8 moments: up to 5."""
        for moment, number in itertools.product(range(1, 9), (0, 2)):
            if number == 2:
                self.check(row_at(NONE, moment, ("close", "in", 2)), 6 if moment <= 5 else None)
            elif moment > 5:
                self.check(row_at(NONE, moment, ("close", "in", 0)), None)
        # Closed at 5, seen at 6, it must come by 8.
        self.check(row_at(row_at(NONE, 5, ("close", "in", 0)), 8, ("late", "in")), 6)
        self.check(row_at(NONE, 5, ("close", "in", 0)), None)
        self.check((), 6, ("channel", (2, 3, 3), (4, 9, 6), 0))
        self.check(((("close", "in", 0),), (), (), ()), 4, ("channel", (2, 3, 3), (4, 9, 6), 4))

    def test_what_is_no_plan(self):
        for plan in (
            NONE[:7], NONE + ((),), row_at(PLAN, 1, ("close", "in", 3)), row_at(PLAN, 1, ("close", "in", -1)),
            row_at(PLAN, 1, ("close", "out", 0)), row_at(PLAN, 1, ("show", "in")), row_at(PLAN, 1, ("close", "in")),
            row_at(PLAN, 1, ("close", "in", False)), row_at(PLAN, 1, ("close", 0, 0)), row_at(PLAN, 1, ()),
            put(PLAN, (0,), ("close", "in", 0)), put(PLAN, (0,), [("close", "in", 0)]), list(PLAN),
            row_at(PLAN, 1, ["close", "in", 0]), row_at(PLAN, 1, ("close", "in", 0, 0)), None, "plan", 8,
        ):
            self.assertIs(games.is_game_plan(LATE, plan), False, plan)
        for plan in (NONE[:7], row_at(PLAN, 1, ("show", "in")), None, "plan", 8, ()):
            check_raises(self, games.ended, (LATE, plan), Unfit())

    def test_seen_at_the_look_of_its_moment(self):
        """An elder one that comes at a look is seen there: in time with delay moments alone."""
        game = ("channel", (2, 3, 2), (4, 6), 8)
        plan = row_at(row_at(NONE, 3, ("close", "in", 0)), 5, ("late", "in"))
        self.check(plan, 6, game)
        self.check(row_at(row_at(NONE, 4, ("close", "in", 0)), 8), 4, game)
        # Behind the window nothing is handed in: it is below since + wait alone.
        for wait in (1, 2):
            other = ("channel", (2, 1, wait), (4, 6), 8)
            seen = row_at(NONE, 1, ("close", "in", 0))
            self.check(row_at(seen, 3, ("late", "in")), 6 if wait == 2 else 4, other)
        self.check(row_at(NONE, 1, ("close", "in", 0)), 4, ("channel", (2, 1, 0), (4, 6), 8))


class Middle(unittest.TestCase):
    def check(self, plan, told, game=MIDDLE):
        table = plain_games.behind_plan(game, plan)
        self.assertEqual(None if table is None else table.end(), told)
        self.assertIs(games.is_game_plan(game, plan), told is not None, plan)
        if told is not None:
            self.assertEqual(games.ended(game, plan), told)

    def plan(self, rows):
        return tuple(tuple(rows.get(moment, ())) for moment in range(1, 8))

    def test_nothing_comes(self):
        """close_by of 5 is 1: it hands in the close of "in" there, as it hears nothing of the secret."""
        self.check(((),) * 7, None)
        self.check(self.plan({2: [("late", "in")]}), 5)
        self.check(self.plan({3: [("late", "in")]}), 5)
        for moment in (1, 4, 5):
            self.check(self.plan({moment: [("late", "in")]}), None)

    def test_the_secret_is_shown(self):
        """It is seen at the latest at 3, where "in" is closed, too: the show comes at 4 or 5, in time."""
        opened = [("close", "out", 1), ("show", "out")]
        for moment, at in itertools.product((1, 2, 3), range(1, 8)):
            rows = {moment: opened}
            rows[3] = [("late", "in")] + rows.get(3, [])
            rows[at] = rows.get(at, []) + [("late", "show")]
            self.check(self.plan(rows), 5 if at in (4, 5) else None)
        # With "in" closed a moment earlier it is handed in a moment earlier.
        rows = {1: opened, 2: [("late", "in")]}
        for at, told in ((2, None), (3, 5), (4, 5), (5, None)):
            self.check(self.plan({**rows, at: rows.get(at, []) + [("late", "show")]}), told)
        # In the end it must have come.
        self.check(self.plan({3: [("late", "in")] + opened}), None)

    def test_the_end_of_the_lock_out(self):
        """Opened at 3, not at 4: there the LOCK out is void. What comes at 5 opens a LOCK in of end 5, not of 4."""
        rows = {1: [("close", "out", 1)], 3: [("late", "in"), ("show", "out")], 5: [("late", "show")]}
        self.check(self.plan(rows), 5)
        rows = {1: [("close", "out", 1)], 3: [("late", "in")], 4: [("show", "out")], 6: [("late", "show")]}
        self.check(self.plan(rows), 5)
        self.check(self.plan({**rows, 5: [("late", "show")], 6: []}), 10)
        game = put(MIDDLE, (3,), 4)
        rows = {1: [("close", "out", 1)], 2: [("late", "in")], 3: [("show", "out")], 5: [("late", "show")]}
        self.check(self.plan(rows), 0, game)
        self.check(self.plan({**rows, 4: [("late", "show")], 5: []}), 5, game)
        # At 4, its end in, nothing is handed in any more.
        rows = {1: [("close", "out", 1)], 2: [("late", "in")], 4: [("show", "out")]}
        self.check(self.plan(rows), 5, game)
        self.check(self.plan({**rows, 6: [("late", "show")]}), None, game)

    def test_elder_sheets(self):
        """SHEET 0 of "in" gives nothing, that of "out" all: the newest one is handed in against both."""
        self.check(self.plan({1: [("close", "in", 0)], 3: [("late", "in")]}), 5)
        self.check(self.plan({1: [("close", "in", 0)], 2: [("close", "in", 1)], 3: [("late", "in")]}), 5)
        self.check(self.plan({1: [("close", "out", 0)], 3: [("late", "out"), ("late", "in")]}), 5)
        self.check(self.plan({1: [("close", "out", 0)], 3: [("late", "in"), ("late", "out")]}), 5)

    def test_shows_of_the_rest(self):
        """A secret shown in "in" while the elder SHEET lies there counts for the newest."""
        rows = {1: [("close", "in", 0), ("show", "in")], 3: [("late", "in")]}
        self.check(self.plan(rows), 10)
        self.check(self.plan({1: [("show", "in")], 3: [("late", "in")]}), 5)
        self.check(self.plan({1: [("close", "in", 1), ("show", "in"), ("close", "out", 1), ("show", "out")]}), 5)
        self.check(self.plan({1: [("close", "in", 1)], 5: [("show", "in")]}), 10)
        self.check(self.plan({1: [("close", "in", 1)], 6: [("show", "in")]}), 5)

    def test_closes_of_the_rest(self):
        """The wait is 2, and there are 7 moments."""
        for moment, told in ((5, 5), (6, None)):
            rows = {3: [("late", "in")]}
            rows[moment] = [("close", "in", 0)]
            self.check(self.plan(rows), told)
        self.check(self.plan({1: [("close", "in", 1), ("show", "in")], 7: [("show", "out"), ("show", "in")]}), 10)

    def test_it_closes_at_the_last_look_alone_till_it_knows_that_nothing_comes(self):
        """A great end in: at the look at the end out the LOCK out is void, so it needs not close."""
        game = put(put(MIDDLE, (3,), 8), (5,), 10)
        self.assertEqual((clocks.close_by(game[1], 8), clocks.go_by(game[1], 8, 3)), (4, None))
        self.check(((),) * 10, 5, game)
        shown = ((("close", "out", 1), ("show", "out")),) + ((),) * 9
        self.check(shown, None, game)
        self.check(put(put(shown, (5,), (("late", "in"),)), (7,), (("late", "show"),)), 5, game)
        self.check(put(put(shown, (4,), (("late", "in"),)), (6,), (("late", "show"),)), 5, game)

    def test_no_close_by(self):
        """With an end in of 3 there is none: it closes from the first look on."""
        game = put(MIDDLE, (3,), 3)
        self.assertIsNone(clocks.close_by(game[1], 3))
        self.check(((),) * 7, None, game)
        self.check(self.plan({1: [("late", "in")]}), 5, game)
        self.check(self.plan({2: [("late", "in")]}), 5, game)


class Least(unittest.TestCase):
    def test_beside_a_plain_going_through(self):
        seen = collections.Counter()
        for seed in range(60):
            game = drawn(random.Random(seed), 6 if seed % 3 else 7)
            least = plain_games.least(game)
            self.assertEqual(games.least_end(game), least, game)
            plan = games.worst_plan(game)
            self.assertIs(games.is_game_plan(game, plan), True)
            self.assertEqual((games.ended(game, plan), plain_games.behind_plan(game, plan).end()), (least, least))
            wanted = game[2][-1] if game[0] == "channel" else game[2]
            self.assertIs(games.is_safe(game), least >= wanted)
            seen[game[0], least >= wanted] += 1
        self.assertGreater(min(seen.values()), 2, seen)
        self.assertEqual(len(seen), 4)

    def test_drawn_plans(self):
        """None ends with less than the least; bent ones beside the plain telling."""
        right = wrong = 0
        for seed in range(150):
            make = random.Random(seed)
            game = drawn(make, 9)
            plan, least = drawn_plan(make, game), games.least_end(game)
            told = plain_games.behind_plan(game, plan)
            self.assertEqual(games.ended(game, plan), told.end())
            self.assertGreaterEqual(told.end(), least)
            for thing in bends(plan):
                if make.random() < 0.1:
                    told = plain_games.behind_plan(game, thing)
                    self.assertIs(games.is_game_plan(game, thing), told is not None, (game, thing))
                    right, wrong = right + (told is not None), wrong + (told is None)
        self.assertGreater(min(right, wrong), 100)

    def test_with_enough_wait(self):
        """The guarantees: safe with enough wait and gap, not with one less."""
        for delay, look in itertools.product((1, 2, 3), (1, 2, 3)):
            wait = clocks.least_wait(delay, look)
            for extra in (0, 1):
                self.assertIs(games.is_safe(("channel", (delay, look, wait + extra), (3, 9, 0, 6), wait + look + 1)), True)
            self.assertIs(games.is_safe(("channel", (delay, look, wait - 1), (0, 6), wait + look)), False)
            for out_end in (0, 1, 4, 8):
                times = (delay, look, wait)
                in_end = clocks.look_at(times, max(out_end, delay)) + delay
                game = ("middle", times, 2, in_end, out_end, wait + max(in_end, out_end))
                self.assertIs(games.is_safe(game), True, game)
                if out_end > 0:
                    less = ("middle", times, 2, in_end - 1, out_end, wait + max(in_end - 1, out_end))
                    self.assertEqual((games.is_safe(less), games.least_end(less)), (False, 0), less)

    def test_bounds(self):
        """As many moments and shares as there can be."""
        game = ("channel", (3, 3, 6), (4, 9, 2, 7), 14)
        self.assertEqual((games.least_end(game), games.is_safe(game)), (7, True))
        game = ("channel", (3, 3, 4), (4, 9, 2, 7), 14)
        self.assertEqual((games.least_end(game), games.is_safe(game)), (2, False))
        for in_end, told in ((12, True), (11, False)):
            self.assertIs(games.is_safe(("middle", (3, 3, 5), 7, in_end, 8, 14)), told)

    def test_trying(self):
        for delay, look in itertools.product((1, 2, 3), (1, 2, 3)):
            self.assertEqual(games.wait_tried(delay, look), clocks.least_wait(delay, look))
            for out_end, extra in itertools.product((1, 3, 6, 8), (0, 1)):
                times = (delay, look, clocks.least_wait(delay, look) + extra)
                if times[2] <= 6:
                    told = clocks.look_at(times, max(out_end, delay)) + delay
                    self.assertEqual(games.in_end_tried(times, out_end), told)
                    if out_end >= delay:
                        self.assertEqual(told, clocks.least_in_end(times, out_end))
        # At 0 nothing is shown, whatever the end in is.
        self.assertEqual(games.in_end_tried((2, 2, 3), 0), 0)


class Given(unittest.TestCase):
    """Each function in every way in which it can be called."""

    def test_forms(self):
        for game, told in ((LATE, True), (MIDDLE, True), (list(LATE), False), (LATE[:3], False), (None, False), ((), False)):
            check_gives(self, games.is_game, (game,), told)
            self.assertIs(plain_games.is_game(game), told)
        for plan, told in ((PLAN, True), (NONE, True), (list(PLAN), False), (PLAN[:7], False), (None, False)):
            check_gives(self, games.is_game_plan, (LATE, plan), told)
        check_gives(self, games.ended, (LATE, PLAN), 4)
        check_gives(self, games.ended, (LATE, NONE), 6)
        check_gives(self, games.least_end, (LATE,), 4)
        check_gives(self, games.least_end, (MIDDLE,), 5)
        check_gives(self, games.is_safe, (LATE,), False)
        check_gives(self, games.is_safe, (MIDDLE,), True)
        for game in (LATE, MIDDLE, put(MIDDLE, (3,), 4)):
            self.assertEqual(outcomes(self, games.worst_plan, (game,)), repr(games.worst_plan(game)))
        check_gives(self, games.wait_tried, (2, 3), 4)
        check_gives(self, games.in_end_tried, ((2, 1, 2), 3), 5)

    def test_no_game(self):
        """Unfit comes first of all, whatever the plan is."""
        for game in (
            None, (), 7, "channel", LATE[:3], LATE + (1,), put(LATE, (0,), "middle"), put(MIDDLE, (0,), "channel"),
            put(LATE, (2,), ()), put(LATE, (2,), (1, -1)), put(LATE, (3,), -1), put(LATE, (1,), (2, 3)),
            put(LATE, (1, 0), 0), put(MIDDLE, (2,), 0), put(MIDDLE, (3,), -1), put(MIDDLE, (4,), None),
        ):
            for function in (games.least_end, games.worst_plan, games.is_safe):
                check_raises(self, function, (game,), Unfit())
            for plan in (PLAN, NONE, None):
                check_raises(self, games.is_game_plan, (game, plan), Unfit())
                check_raises(self, games.ended, (game, plan), Unfit())
            self.assertIs(games.is_game(game), False)

    def test_wait_too_little(self):
        for delay, look in ((1, 1), (2, 3), (3, 3)):
            for wait in range(delay + look - 1):
                check_raises(self, games.in_end_tried, ((delay, look, wait), 3), CanNot())

    def test_values_of_other_kinds(self):
        for thing in NO_TUPLE:
            self.assertIs(games.is_game(thing), False)
            if thing != ():
                self.assertIs(games.is_game_plan(("channel", (1, 1, 1), (1,), 0), thing), False)
        self.assertIs(games.is_game_plan(("channel", (1, 1, 1), (1,), 0), ()), True)
        self.assertIs(games.is_game_plan(("channel", (1, 1, 1), (1,), 10 ** 30), ()), False)


if __name__ == "__main__":
    unittest.main()
