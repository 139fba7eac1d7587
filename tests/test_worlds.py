"""Worlds: what is a choice and what is none, and plays moment by moment beside an own plain run."""

import collections
import unittest

import made_worlds
import plain_worlds
from suredue import worlds
from suredue.errors import Unfit
from suredue.offers import changed
from suredue.sheets import first_sheet
from support import FORMS, bends, check_gives, check_raises, shape

SEVEN = ("image", 7)
CALM = (0, 0, 0)
# At moment 8 channel 1 is closed, a close of 0 must come next, another one can; 0 offered SHEET 2 of channel 0.
BUSY = made_worlds.busy()
LENT = (0, 2, (45, 30), ((0, 5, SEVEN, 60),))
# 0 and 1 are steady; channel 2 has no steady one.
NET = ((0, 1, 6, 4), (1, 2, 5, 5), (2, 3, 7, 1))


def tupled(thing):
    return tuple(tupled(part) for part in thing) if isinstance(thing, (list, tuple)) else thing


def begun(wishes=((), (), (), ()), asks=((), (), (), ()), times=(2, 1, 3)):
    return worlds.begun_world(NET, times, (0, 1), wishes, asks, (CALM,) * 4)


def ahead(world, many, choose=worlds.quiet):
    """The world so many moments later."""
    for _ in range(many):
        world = worlds.next_world(world, choose(world))
    return world


class Given(unittest.TestCase):
    """Each function in every way in which it can be called."""

    def test_begun_world(self):
        for seed in range(12):
            _, args = made_worlds.begun(seed, care=seed % 3)
            check_gives(self, worlds.begun_world, args, plain_worlds.Run(*args).world())

    def test_the_look_of_moment_0_is_done(self):
        wishes = (((0, ("leave", 0)),), ((0, ("pay", (1,), 2, SEVEN, (40,))),), ((0, ("leave", 1)),), ())
        asks = (((1, 1),), ((2, 1),), ((9, 1), (3, 5)), ((3, 1), (8, 1)))
        world = begun(wishes, asks)
        self.assertEqual(world[:5], (NET, (2, 1, 3), (0, 1), 0, (None,) * 3))
        self.assertEqual([mind[2] for mind in world[5]], [0, 1])
        self.assertEqual(world[6:9], (((), ()), (), ((0, ("close", first_sheet(NET, 0)), 2),)))
        # 1 is not in turn in channel 1: it asks 2, which is no steady one. The rest knows what its persons know.
        self.assertEqual(world[9:], ((), (3, 8, 9)))

    def test_choices(self):
        check_gives(self, worlds.forced, (BUSY,), (0,))
        check_gives(self, worlds.quiet, (BUSY,), ((("late", 0),), ()))
        check_gives(self, worlds.swift, (BUSY,), ((("late", 0), ("late", 1)), ()))
        sixth = made_worlds.busy(6)
        check_gives(self, worlds.forced, (sixth,), ())
        check_gives(self, worlds.quiet, (sixth,), ((), ()))
        fresh = (("sent", 2), ("sent", 3), ("sent", 4), ("sent", 5))
        check_gives(self, worlds.swift, (sixth,), ((("late", 0),), fresh))
        for thing, told in ((worlds.quiet(BUSY), True), (((), ()), False), ([[], []], False), (None, False)):
            check_gives(self, worlds.is_choice, (BUSY, thing), told)

    def test_can_do(self):
        for deed, told in (
            (("close", LENT), True), (("close", first_sheet(BUSY[0], 0)), True),
            (("close", (0, 1, (50, 30), ())), True),
            (("close", (0, 1, (49, 31), ())), False), (("close", (0, 3, (50, 30), ())), False),
            (("close", first_sheet(BUSY[0], 1)), True), (("close", (1, 1, (20, 20), ())), False),
            (("show", 0, 7), True), (("show", 2, 3), True), (("show", 1, 9), True), (("show", 0, 4), False),
        ):
            check_gives(self, worlds.can_do, (BUSY, deed), told)

    def test_sealed_in(self):
        first, second = first_sheet(BUSY[0], 0), (0, 1, (50, 30), ())
        check_gives(self, worlds.sealed_in, (BUSY, 0), (first, second, LENT))
        for channel in (1, 2):
            check_gives(self, worlds.sealed_in, (BUSY, channel), (first_sheet(BUSY[0], channel),))

    def test_view_of(self):
        second, closes = (0, 1, (50, 30), ()), (("close", first_sheet(BUSY[0], 2)), ("close", (0, 1, (50, 30), ())))
        first, last = first_sheet(BUSY[0], 1), first_sheet(BUSY[0], 2)
        told = (0, 8, BUSY[4], (second, None, last), (second, LENT, last), (), ((closes[0], 9), (closes[1], 11)))
        check_gives(self, worlds.view_of, (BUSY, 0), told)
        check_gives(self, worlds.view_of, (BUSY, 1), (1, 8, BUSY[4], (LENT, first, None), (LENT, first), (), ()))
        for person in (2, 3, 5, 6, 9):
            check_raises(self, worlds.view_of, (BUSY, person), Unfit())

    def test_next_world(self):
        for seed in range(10):
            make, args = made_worlds.begun(seed, care=seed % 3)
            along, made = made_worlds.played(make, worlds.begun_world(*args))
            for at in range(0, len(made), 7):
                check_gives(self, worlds.next_world, (along[at], made[at]), along[at + 1])
        for choice in (((), ()), ((("late", 0), ("late", 0)), ()), ((("late", 0), ("late", 2)), ()), (), None):
            check_raises(self, worlds.next_world, (BUSY, choice), Unfit())


class Next(unittest.TestCase):
    """What one choice does."""

    def test_deeds_come_in_the_order_of_the_row(self):
        """0 closes channel 0 with SHEET 1, the rest with SHEET 2: a lower one does nothing behind it."""
        first, held = ("late", 0), ("late", 1)
        lent = ("own", ("close", LENT))
        mine = (0, 1, (50, 30), ())
        for row, page in (((first, held, lent), LENT), ((lent, held, first), LENT), ((held, first), mine)):
            world = worlds.next_world(BUSY, (row, ()))
            self.assertEqual(world[4][0], (page, 9, ()))
            self.assertEqual(world[4][2], (first_sheet(BUSY[0], 2), 9, ()))
            self.assertEqual((world[3], world[8]), (9, ()))
        # A secret that comes ahead of the close is passed by.
        show = ("own", ("show", 0, 7))
        world = worlds.next_world(BUSY, ((first, show, held, show), ()))
        self.assertEqual(world[4][0], (mine, 9, ((7, 9),)))
        self.assertEqual(worlds.next_world(BUSY, ((first, show, held), ()))[4][0][2], ())
        self.assertEqual(worlds.next_world(BUSY, ((first,), ()))[8], BUSY[8][1:])

    def test_letters_come_to_the_boxes_in_order(self):
        told = ("turn", 1, 5)
        letters = (("sent", 5), ("own", 5, 0, told), ("sent", 3), ("sent", 5), ("own", 2, 0, told))
        world = worlds.next_world(BUSY, ((("late", 0),), letters))
        agreed, offered = BUSY[7][5][2], BUSY[7][3][2]
        self.assertEqual(world[6], (((1, agreed), (5, told), (1, agreed), (2, told)), ((0, offered),)))
        self.assertEqual(world[7], BUSY[7])
        # 9 is no look, 10 is one: then the boxes are empty.
        tenth = worlds.next_world(world, ((), (("sent", 0),)))
        self.assertEqual(tenth[6], ((), ()))
        # 1 agrees again to what it holds.
        self.assertEqual(tenth[7], BUSY[7][:5] + (BUSY[7][5][:3] + (10,),))

    def test_a_letter_that_is_sent_again_keeps_its_place(self):
        """1 wants to pay 0, and offers a SHEET at each look; what goes to 2 is not told among what was sent."""
        wishes = ((), ((0, ("pay", (0,), 2, SEVEN, (40,))), (1, ("pay", (1,), 2, SEVEN, (40,)))), (), ())
        world = begun(wishes)
        offer = ("offer", (0, 1, (6, 2), ((1, 2, SEVEN, 40),)))
        for moment in range(4):
            self.assertEqual(world[7], ((1, 0, offer, moment),))
            self.assertEqual(world[9], ((1, offer[1]),))
            world = ahead(world, 1)
        world = worlds.next_world(world, ((), (("sent", 0),)))
        self.assertEqual(world[7], ((1, 0, offer, 5), (0, 1, ("agree", offer[1]), 5)))
        self.assertEqual(world[9], ((0, offer[1]), (1, offer[1])))

    def test_what_the_rest_comes_to_know(self):
        """0 has what pays for the secret that it asks for; it tells it, and so the rest knows it."""
        wishes, asks = ((), ((0, ("pay", (0,), 2, SEVEN, (40,))),), (), ()), (((7, 1), (8, 1)), (), ((3, 1),), ())
        world = begun(wishes, asks)
        self.assertEqual(world[10], (3,))
        world = ahead(world, 1, worlds.swift)
        self.assertEqual((world[10], world[7][-1][2]), ((3, 7), ("secret", 0, 7)))
        # What comes to the ledger is known, too: here the channel of 2 and 3, which nobody looks after.
        page = (2, 9, (0, 8), ())
        self.assertFalse(worlds.can_do(world, ("show", 2, 8)))
        world = worlds.next_world(world, ((("own", ("close", page)), ("own", ("show", 2, 3))), ()))
        self.assertEqual((world[4][2], world[10]), ((page, 2, ((3, 2),)), (3, 7)))
        self.assertEqual([mind[5] for mind in world[5]], [(3, 7), (3,)])

    def test_deeds_of_one_who_leaves(self):
        world = begun((((1, ("leave", 0)),), (), (), ()), times=(3, 2, 4))
        third = ahead(world, 3)
        close = ("close", first_sheet(NET, 0))
        self.assertEqual((third[8], worlds.forced(third)), (((0, close, 5),), ()))
        self.assertEqual(worlds.forced(ahead(third, 1)), (0,))
        fifth = ahead(third, 2)
        self.assertEqual((fifth[8], fifth[4][0]), ((), (close[1], 5, ())))
        self.assertRaises(Unfit, worlds.next_world, ahead(third, 1), ((), ()))
        self.assertEqual(ahead(third, 1, worlds.swift)[4][0], (close[1], 4, ()))


class Choices(unittest.TestCase):
    """Choices at a world in which channel 0 has two steady ones, channel 1 one, channel 2 none."""

    def setUp(self):
        wishes, asks = ((), ((0, ("pay", (0,), 2, SEVEN, (40,))), (0, ("leave", 1))), (), ()), ((), (), ((3, 1),), ())
        self.world = begun(wishes, asks)
        self.offered = (0, 1, (6, 2), ((1, 2, SEVEN, 40),))
        self.other = (1, 1, (5, 5), ())

    def check(self, row, letters, told):
        thing = (row, letters)
        self.assertIs(worlds.is_choice(self.world, thing), told, thing)
        self.assertIs(plain_worlds.is_choice(self.world, thing), told, thing)
        for form in FORMS:
            if told:
                self.assertEqual(worlds.next_world(self.world, form(thing))[3], 1)
            else:
                self.assertRaises(Unfit, worlds.next_world, self.world, form(thing))

    def test_rows(self):
        page = (2, 4, (3, 1), ((0, 4, SEVEN, 3),))
        for part, told in (
            (("late", 0), True), (("late", 1), False), (("late", -1), False), (("late", None), False),
            (("sent", 0), False),
            (("own", ("close", first_sheet(NET, 0))), True), (("own", ("close", self.offered)), False),
            (("own", ("close", (0, 1, (6, 4), ()))), False), (("own", ("close", self.other)), False),
            # What two of the rest seal is sealed.
            (("own", ("close", page)), True), (("own", ("close", (2, 4, (3, 2), ()))), False),
            (("own", ("close", (2, 0, (8, 0), ()))), False), (("own", ("close", (3, 1, (8, 0), ()))), False),
            (("own", ("show", 0, 3)), True), (("own", ("show", 2, 3)), True), (("own", ("show", 3, 3)), False),
            (("own", ("show", 0, 7)), False), (("own", ("show", 0, -3)), False), (("own", ("pay", 0, 3)), False),
            (("close", first_sheet(NET, 0)), False), (("show", 0, 3), False), (("own",), False), ((), False),
        ):
            self.check((part,), (), told)
        self.check((), (), True)
        self.check((("late", 0), ("late", 0)), (), False)
        self.check((("own", ("show", 0, 3)), ("late", 0), ("own", ("show", 0, 3))), (), True)

    def test_letters(self):
        told = ("turn", 2, 8)
        for part, good in (
            (("sent", 0), True), (("sent", 1), False), (("sent", -1), False), (("late", 0), False),
            (("sent", 0, 0), False),
            (("own", 2, 1, ("offer", self.other)), True), (("own", 2, 1, ("agree", self.other)), True),
            (("own", 3, 1, ("offer", self.other)), False), (("own", 2, 0, ("offer", self.other)), False),
            (("own", 2, 1, ("offer", (1, 1, (5, 4), ()))), False),
            (("own", 2, 1, ("offer", (0, 1, (5, 5), ()))), False),
            (("own", 2, 1, ("agree", (2, 1, (4, 4), ()))), False),
            (("own", 2, 3, ("offer", (2, 1, (4, 4), ()))), False),
            (("own", 0, 1, ("offer", self.offered)), False), (("own", 2, 0, ("agree", self.offered)), False),
            (("own", 2, 1, told), True), (("own", 3, 0, told), True), (("own", 0, 1, told), False),
            (("own", 2, 2, told), False), (("own", 2, 3, told), False), (("own", 4, 0, told), False),
            (("own", 2, 1, ("secret", 0, 3)), True), (("own", 3, 0, ("secret", 2, 3)), True),
            (("own", 2, 1, ("secret", 0, 7)), False), (("own", 2, 1, ("secret", 3, 3)), False),
            (("own", 3, 0, ("pass", 0, SEVEN, (1, 2), (3, 4))), True),
            (("own", 3, 0, ("pass", 0, SEVEN, (3,), (4,))), False),
            (("own", 2, 1), False), (("own", True, 1, told), False), (("own", 2, True, told), False), (told, False),
        ):
            self.check((), (part,), good)
            self.check((), (part, ("sent", 0), part), good)

    def test_seals_are_those_of_this_world(self):
        """A letter of now is taken at a look behind the row: what is sealed then can be done a moment later."""
        agree, close = ("sent", 0), ("own", ("close", self.offered))
        self.assertFalse(worlds.is_choice(self.world, ((close,), (agree,))))
        world = worlds.next_world(self.world, ((), (agree,)))
        self.assertTrue(worlds.is_choice(world, worlds.quiet(world)))
        self.assertEqual(worlds.sealed_in(self.world, 0), (first_sheet(NET, 0),))
        self.assertEqual(worlds.sealed_in(world, 0), (first_sheet(NET, 0), self.offered))
        self.assertTrue(worlds.is_choice(world, ((("late", 0), close), ())))


class BesidePlain(unittest.TestCase):
    def check_choices(self, make, world, choice, seen):
        for thing in [choice] + [own for own in bends(choice) if make.random() < 0.02]:
            told = plain_worlds.is_choice(world, thing)
            seen[told] += 1
            self.assertIs(worlds.is_choice(world, thing), told, thing)
            if plain_worlds.is_choice(world, tupled(thing)):
                self.assertEqual(worlds.next_world(world, thing)[3], world[3] + 1)
            else:
                self.assertRaises(Unfit, worlds.next_world, world, thing)

    def check_told(self, world):
        """All that is asked of a world."""
        forced = plain_worlds.forced(world)
        self.assertEqual(worlds.forced(world), forced)
        self.assertEqual(worlds.quiet(world), (tuple(("late", place) for place in forced), ()))
        fresh = tuple(("sent", place) for place, part in enumerate(world[7]) if part[3] == world[3])
        self.assertEqual(worlds.swift(world), (tuple(("late", place) for place in range(len(world[8]))), fresh))
        self.assertTrue(plain_worlds.is_choice(world, worlds.quiet(world)))
        self.assertTrue(plain_worlds.is_choice(world, worlds.swift(world)))
        for mind in world[5]:
            self.assertEqual(worlds.view_of(world, mind[2]), plain_worlds.view(world, mind))
        for channel, part in enumerate(world[0]):
            if set(part[:2]) & set(world[2]):
                told = worlds.sealed_in(world, channel)
                pages = {page for _, page in world[9] if page[0] == channel} | {first_sheet(world[0], channel)}
                self.assertEqual(told, tuple(sorted(page for page in pages if plain_worlds.is_sealed(world, page))))
                # There are never two unlike ones of one number.
                self.assertEqual([page[1] for page in told], sorted({page[1] for page in told}))
                for page in pages | {changed(page, 0, ("pass",)) for page in pages}:
                    expected = plain_worlds.can_do(world, ("close", page))
                    self.assertIs(worlds.can_do(world, ("close", page)), expected)
            for secret in range(6):
                self.assertIs(worlds.can_do(world, ("show", channel, secret)), secret in world[10])

    def test_plays(self):
        seen, kinds = collections.Counter(), collections.Counter()
        for seed in range(120):
            make, args = made_worlds.begun(seed, care=2 if seed % 3 == 0 else 0)
            world, run = worlds.begun_world(*args), plain_worlds.Run(*args)
            self.assertEqual(shape(world), shape(run.world()))
            along, made = made_worlds.played(make, world)
            for at, choice in enumerate(made):
                run.step(choice)
                self.assertEqual(shape(along[at + 1]), shape(run.world()), (seed, at))
                kinds.update(part[0] for part in choice[0] + choice[1])
                kinds.update(part[-1][0] for part in choice[0] + choice[1] if part[0] == "own")
                if at % 9 == seed % 9:
                    self.check_told(along[at])
                    self.check_choices(make, along[at], choice, seen)
        self.assertGreater(min(seen.values()), 500, seen)
        for kind in ("late", "sent", "own", "close", "show", "offer", "agree", "turn", "secret", "pass"):
            self.assertGreater(kinds[kind], 30, kinds)

    def test_guarantees(self):
        for seed in range(200, 260):
            make, args = made_worlds.begun(seed)
            along, made = made_worlds.played(make, worlds.begun_world(*args))
            for before, behind in zip(along, along[1:]):
                self.assertEqual(behind[3], before[3] + 1)
                # What is handed in comes within delay moments, in whatever world.
                self.assertTrue(all(behind[3] < last <= behind[3] + args[1][0] for _, _, last in behind[8]))
                self.assertLessEqual(set(before[9]), set(behind[9]))
                self.assertLessEqual(set(before[10]), set(behind[10]))


if __name__ == "__main__":
    unittest.main()
