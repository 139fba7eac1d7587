"""Dues: what can lie, what is sure, cases and the least of their worth, beside a going through of all cases; plays."""

import collections
import unittest

import made_views
import made_worlds
import plain_dues
from suredue import dues, minds, worlds
from suredue.errors import NoPlace, Unfit
from suredue.ledger import ends_with
from suredue.sheets import first_sheet
from support import NO_TUPLE, bends, check_gives, check_raises, outcomes, put, shape

SEVEN, EIGHT = ("image", 7), ("image", 8)
NET, TIMES = ((0, 1, 9, 3), (1, 2, 8, 0), (2, 0, 1, 1)), (2, 3, 4)
INWARD, OUTWARD = (0, 1, (4, 3), ((0, 5, SEVEN, 17),)), (1, 1, (3, 0), ((0, 5, SEVEN, 14),))
FIRST = first_sheet(NET, 0)


def view(moment=11, ledger=(None, None, None), held=(INWARD, OUTWARD, None), given=(), secrets=(), coming=()):
    """A VIEW of 1."""
    return (1, moment, ledger, held, given, secrets, coming)


def closed(page, since, *shown):
    """A LEDGER in which channel 0 is closed."""
    return ((page, since, shown), None, None)


class CanLie(unittest.TestCase):
    def check(self, own, told, channel=0):
        check_gives(self, dues.can_lie, (NET, TIMES, own, channel), told)
        self.assertEqual(plain_dues.possible(NET, TIMES, own, channel), told)

    def test_open(self):
        second, third = (0, 2, (9, 3), ()), (0, 3, (8, 4), ())
        self.check(view(), (INWARD,))
        self.check(view(), (OUTWARD,), 1)
        self.check(view(given=(INWARD, second, third, OUTWARD)), (INWARD, second, third))
        # What is lower than what is held can not lie; what is no higher neither.
        self.check(view(held=(second, OUTWARD, None), given=(INWARD, (0, 2, (8, 4), ()), third)), (second, third))

    def test_at_and_behind_the_window(self):
        """Closed at 9: the window ends at 13; what is handed in at 9 comes by 11, at 12 by 14."""
        second, given = (0, 2, (9, 3), ()), (INWARD, (0, 2, (9, 3), ()))
        for moment, told in (
            (9, (FIRST, INWARD, second)), (8, None), (10, (FIRST, INWARD, second)), (12, (FIRST, INWARD, second)),
            (13, (FIRST,)), (14, (FIRST,)), (99, (FIRST,)),
        ):
            if told is not None:
                self.check(view(moment, closed(FIRST, 9), given=given), told)
        # Closed at 10, the window ends at 14: up to 11 the next look 12 is in time.
        for moment, told in ((10, (INWARD, second)), (11, (INWARD, second)), (12, (FIRST, INWARD, second)), (14, (FIRST,))):
            self.check(view(moment, closed(FIRST, 10), given=given), told)

    def test_own_close_on_the_way(self):
        given, shut = (INWARD,), closed(FIRST, 9)
        for deed, last, told in (
            (INWARD, 13, (INWARD,)), (INWARD, 14, (FIRST, INWARD)), (INWARD, 12, (INWARD,)), (FIRST, 13, (FIRST, INWARD)),
            ((0, 2, (9, 3), ()), 13, (FIRST, INWARD)), (OUTWARD, 13, (FIRST, INWARD)),
        ):
            self.check(view(12, shut, given=given, coming=((("close", deed), last),)), told)
        two = ((("close", INWARD), 14), (("close", INWARD), 13))
        self.check(view(12, shut, given=given, coming=two), (INWARD,))
        # Behind the window it comes too late, whatever was told of it.
        self.check(view(13, shut, given=given, coming=two), (FIRST,))

    def test_what_lies_there_is_not_lower(self):
        given, second = (INWARD, (0, 2, (9, 3), ()), (0, 3, (8, 4), ())), (0, 2, (9, 3), ())
        self.check(view(10, closed(INWARD, 10), given=given), given)
        self.check(view(10, closed(second, 10), given=given), given[1:])
        self.check(view(10, closed((0, 1, (0, 12), ()), 10)), ((0, 1, (0, 12), ()),))

    def test_no_place(self):
        for channel in (2, 3, -1):
            for function in (dues.can_lie, dues.closed_by):
                check_raises(self, function, (NET, TIMES, view(), channel), NoPlace(channel))
                # What is no VIEW comes first.
                check_raises(self, function, (NET, TIMES, view()[:6], channel), Unfit())


class ClosedBy(unittest.TestCase):
    def check(self, own, told, channel=0):
        check_gives(self, dues.closed_by, (NET, TIMES, own, channel), told)
        self.assertEqual(plain_dues.closing(NET, TIMES, own, channel), told)

    def test_closed_by(self):
        self.check(view(9, closed(FIRST, 5)), 5)
        for moment, told in ((9, 14), (11, 14), (12, 17), (0, 5)):
            self.check(view(moment), told)
            self.check(view(moment), told, 1)

    def test_closes_on_the_way(self):
        for last, told in ((13, 13), (14, 14), (15, 14), (10, 10)):
            self.check(view(coming=((("close", INWARD), last),)), told)
            self.check(view(coming=((("close", OUTWARD), 9), (("close", FIRST), last), (("show", 0, 7), 5))), told)
        self.check(view(coming=((("close", INWARD), 13), (("close", FIRST), 12))), 12)
        # Its own DEEDS may be of any channel.
        self.check(view(coming=((("close", first_sheet(NET, 2)), 9),)), 14)


class Worth(unittest.TestCase):
    def check(self, own, case, told):
        self.assertIn(case, list(plain_dues.cases(NET, TIMES, own)))
        self.assertEqual(plain_dues.worth(NET, TIMES, own, case), told)
        self.assertEqual(dues.worth_of(NET, TIMES, own, case), told)

    PAGES, ALL = (INWARD, OUTWARD, None), ((1, SEVEN),)

    def test_an_opened_lock_out(self):
        """The secret is seen at 15: the LOCK in is sure if channel 0 is closed by then, till 17."""
        for moment, told in ((0, 11), (9, 11), (11, 11), (12, 6)):
            self.check(view(moment), (self.PAGES, self.ALL), told)
            self.check(view(moment), (self.PAGES, ()), 11)
        # Handed in at 12, it comes by 14, or by 15, or too late.
        for last, told in ((14, 11), (15, 11), (16, 6)):
            coming = ((("close", INWARD), last),)
            self.check(view(12, coming=coming), (self.PAGES, self.ALL), told)
        self.assertEqual(dues.due_in(NET, TIMES, view(11)), 11)
        self.assertEqual(dues.due_in(NET, TIMES, view(12)), 6)

    def test_known_secrets(self):
        """Known at 6, the next look is 9: the channel is closed by 11, shown at 12, by 14; at 12 no more by 17."""
        for moment, told in ((6, 16), (11, 16), (12, 11)):
            self.check(view(moment, secrets=(7,)), (self.PAGES, ()), told)
        self.check(view(11, secrets=(6, 8)), (self.PAGES, ()), 11)
        self.check(view(11, secrets=(7,)), (self.PAGES, self.ALL), 11)

    def test_shown_by_oneself(self):
        """A show on the way counts in a closed channel alone, and by the end of its LOCK; the case as without it."""
        for last, told in ((17, 16), (18, 11)):
            show = ((("show", 0, 7), last),)
            self.check(view(15, closed(INWARD, 9), secrets=(7,), coming=show), (self.PAGES, ()), told)
            self.check(view(15, secrets=(7,), coming=show), (self.PAGES, ()), 11)
            # What is not known is not counted on, but if the LOCK out is opened.
            self.check(view(13, closed(INWARD, 9), coming=show), (self.PAGES, ()), 11)
            self.check(view(13, closed(INWARD, 9), coming=show), (self.PAGES, self.ALL), 11)
        self.check(view(15, closed(INWARD, 9), secrets=(7,), coming=((("show", 0, 8), 17),)), (self.PAGES, ()), 11)
        self.check(view(15, closed(INWARD, 9), secrets=(7,), coming=((("show", 1, 7), 17),)), (self.PAGES, ()), 11)

    def test_opened_on_the_ledger(self):
        """A LOCK that is opened counts for whom it pays; one that the person pays is gone, and its secret is out."""
        for at, told in ((17, 16), (18, 11)):
            self.check(view(99, closed(INWARD, 9, (7, at))), (self.PAGES, ()), told)
        shut = (None, (OUTWARD, 9, ((7, 14),)), None)
        # 1 sees it at the next look, 15, and closes by 17: not by 17 shown. A moment before it is in time.
        self.check(view(14, shut), (self.PAGES, self.ALL), 6)
        self.check(view(11, (None, (OUTWARD, 9, ((7, 11),)), None)), (self.PAGES, self.ALL), 11)
        self.check(view(99, (None, (OUTWARD, 9, ((7, 15),)), None)), (self.PAGES, ()), 11)

    def test_the_least_of_several_ends(self):
        """Two LOCKS out of one IMAGE: the first of those that are opened tells when the secret is seen."""
        net = ((0, 1, 9, 3), (1, 2, 8, 0), (1, 2, 4, 0))
        pages = (INWARD, OUTWARD, (2, 1, (1, 0), ((0, 3, SEVEN, 8),)))
        own = (1, 5, (None,) * 3, pages, pages, (), ())
        for opened, told in (
            (((1, SEVEN), (2, SEVEN)), 12), (((1, SEVEN),), 15), (((2, SEVEN),), 17), ((), 15),
        ):
            # Its sums come to 7; the LOCK in, 5, is sure from 9 as from 15.
            self.assertEqual(dues.worth_of(net, TIMES, own, (pages, opened)), told)
            self.assertEqual(plain_dues.worth(net, TIMES, own, (pages, opened)), told)
        self.assertEqual(dues.due_in(net, TIMES, own), 12)
        # With an end in of 16 it is sure from 9 alone: what ends first is better not opened.
        pages = ((0, 1, (4, 3), ((0, 5, SEVEN, 16),)),) + pages[1:]
        own = (1, 5, (None,) * 3, pages, pages, (), ())
        for opened, told in ((((1, SEVEN), (2, SEVEN)), 12), (((1, SEVEN),), 10), (((2, SEVEN),), 17), ((), 15)):
            self.assertEqual(dues.worth_of(net, TIMES, own, (pages, opened)), told)
        self.assertEqual(dues.due_in(net, TIMES, own), 10)
        self.assertEqual(dues.worst_case(net, TIMES, own), (pages, ((1, SEVEN),)))

    def test_at_the_end_of_a_lock(self):
        """A LOCK out is in question below its end; at its end it is not."""
        for moment, told in ((13, 6), (14, 11)):
            self.assertEqual(dues.due_in(NET, TIMES, view(moment)), told)
            self.assertIs(dues.is_case(NET, TIMES, view(moment), (self.PAGES, self.ALL)), moment == 13)


class Cases(unittest.TestCase):
    OWN = view(11, given=(INWARD, (0, 2, (9, 3), ()), OUTWARD))
    RIGHT = ((INWARD, OUTWARD, None), ((1, SEVEN),))

    def test_forms(self):
        for thing, told in (
            (self.RIGHT, True), ((self.RIGHT[0], ()), True), (put(self.RIGHT, (0, 0), (0, 2, (9, 3), ())), True),
            (put(self.RIGHT, (0, 0), FIRST), False), (put(self.RIGHT, (0, 2), first_sheet(NET, 2)), False),
            (put(self.RIGHT, (0, 0), None), False), ((self.RIGHT[0], ((0, SEVEN),)), False),
            ((self.RIGHT[0], ((1, EIGHT),)), False), ((self.RIGHT[0], self.RIGHT[1] * 2), False), ((), False),
            (list(self.RIGHT), False), (None, False), (self.RIGHT + ((),), False), (self.RIGHT[:1], False),
        ):
            check_gives(self, dues.is_case, (NET, TIMES, self.OWN, thing), told)
            self.assertIs(plain_dues.is_case(NET, TIMES, self.OWN, thing), told)
        check_gives(self, dues.worth_of, (NET, TIMES, self.OWN, self.RIGHT), 11)
        check_gives(self, dues.due_in, (NET, TIMES, self.OWN), 6)
        told = ((0, 2, (9, 3), ()), OUTWARD, None), ((1, SEVEN),)
        check_gives(self, dues.worst_case, (NET, TIMES, self.OWN), told)

    def test_opened_ones_are_opened(self):
        own = view(20, (None, (OUTWARD, 9, ((7, 14),)), None))
        self.assertIs(dues.is_case(NET, TIMES, own, self.RIGHT), True)
        self.assertIs(dues.is_case(NET, TIMES, own, (self.RIGHT[0], ())), False)
        check_raises(self, dues.worth_of, (NET, TIMES, own, (self.RIGHT[0], ())), Unfit())

    def test_unfit(self):
        for case in (put(self.RIGHT, (0, 0), FIRST), (self.RIGHT[0], ((1, EIGHT),)), (), None, 7, "image", ((), ())):
            check_raises(self, dues.worth_of, (NET, TIMES, self.OWN, case), Unfit())
        for own in (self.OWN[:6], self.OWN + ((),), (), None, put(self.OWN, (0,), 5), put(self.OWN, (1,), -1), "view"):
            check_raises(self, dues.worst_case, (NET, TIMES, own), Unfit())
            check_raises(self, dues.due_in, (NET, TIMES, own), Unfit())
            for case in (self.RIGHT, None):
                check_raises(self, dues.is_case, (NET, TIMES, own, case), Unfit())
                check_raises(self, dues.worth_of, (NET, TIMES, own, case), Unfit())


class Views(unittest.TestCase):
    """What is no VIEW although it nearly is one."""

    BUSY = (
        1, 20, ((FIRST, 12, ((7, 12), (8, 20))), None, ((2, 4, (2, 0), ()), 20, ())), (INWARD, OUTWARD, None),
        (FIRST, INWARD, OUTWARD), (3, 7), ((("close", INWARD), 0), (("show", 2, 9), 25), (("show", 2, 9), 25)),
    )

    def test_right(self):
        for own in (self.BUSY, view(), put(self.BUSY, (4,), ()), put(self.BUSY, (5,), (0,)), put(self.BUSY, (1,), 10 ** 9)):
            check_gives(self, dues.is_view, (NET, own), True)
        # Two unlike ones of one number that it gave: no world has this.
        check_gives(self, dues.is_view, (NET, put(self.BUSY, (4,), (FIRST, (0, 1, (0, 12), ()), INWARD))), True)
        for person, held in ((0, (INWARD, None, (2, 4, (2, 0), ()))), (2, (None, OUTWARD, first_sheet(NET, 2)))):
            own = (person,) + self.BUSY[1:3] + (held, ()) + self.BUSY[5:]
            check_gives(self, dues.is_view, (NET, own), True)

    def test_wrong(self):
        for path, part in (
            ((0,), 3), ((0,), True), ((0,), -1), ((0,), 0), ((1,), 19), ((1,), -1), ((2,), (None, None)),
            ((2, 0, 2), ((7, 11), (8, 20))), ((2, 2, 1), 21), ((2, 0, 2), ((7, 12), (8, 21))),
            ((3, 0), OUTWARD), ((3, 2), (2, 4, (2, 0), ())), ((3, 0), None), ((3, 0), (0, 1, (4, 3), ())),
            ((3,), (INWARD, OUTWARD)), ((4,), (INWARD, FIRST, OUTWARD)), ((4,), (INWARD, INWARD)),
            ((4,), (INWARD, (2, 4, (2, 0), ()))), ((4,), (None,)), ((5,), (7, 3)), ((5,), (3, 3)),
            ((5,), (-1,)), ((5,), (True,)), ((6,), ((("close", INWARD), -1),)), ((6,), (("close", INWARD),)),
            ((6,), ((("close", INWARD), 0, 0),)), ((6,), ((("show", 3, 9), 25),)), ((6,), ((("show", 2, -9), 25),)),
            ((6,), ((("close", (0, 1, (4, 4), ())), 4),)), ((6,), ((("show", 2, 9), True),)),
        ):
            own = put(self.BUSY, path, part)
            check_gives(self, dues.is_view, (NET, own), False)
            self.assertIs(plain_dues.is_view(NET, own), False)
            check_raises(self, dues.due_in, (NET, TIMES, own), Unfit())
        # One who is in no channel has no VIEW.
        check_gives(self, dues.is_view, (NET, (3, 20, (None,) * 3, (None,) * 3, (), (), ())), False)
        # A list is no tuple for the one that judges, and one for the others.
        check_gives(self, dues.is_view, (NET, put(self.BUSY, (4,), [FIRST])), False)
        self.assertEqual(dues.due_in(NET, TIMES, put(self.BUSY, (4,), [FIRST])), 11)


class BesidePlain(unittest.TestCase):
    def test_made_up_views(self):
        """Elder sheets that lie, DEEDS on the way, LOCKS of one IMAGE in and out: all cases are gone through."""
        seen = collections.Counter()
        for seed in range(2500):
            net, times, own = made_views.view(seed)
            self.assertIs(dues.is_view(net, own), True)
            told = {case: plain_dues.worth(net, times, own, case) for case in plain_dues.cases(net, times, own)}
            least = min(told.values())
            self.assertEqual(dues.due_in(net, times, own), least, seed)
            self.assertEqual(told[dues.worst_case(net, times, own)], least, seed)
            for case in list(told)[::7]:
                self.assertEqual(dues.worth_of(net, times, own, case), told[case])
            for channel in plain_dues.sides(net, own[0]):
                self.assertEqual(dues.can_lie(net, times, own, channel), plain_dues.possible(net, times, own, channel))
                self.assertEqual(dues.closed_by(net, times, own, channel), plain_dues.closing(net, times, own, channel))
            seen["some"] += len(told) > 1
            seen["many"] += len(told) > 20
            seen["linked"] += any(len({pair[1] for pair in case[1]}) < len(case[1]) for case in told)
        self.assertGreater(min(seen.values()), 60, seen)

    def test_bent_cases(self):
        right = wrong = 0
        for seed in range(40):
            net, times, own = made_views.view(seed)
            all_cases = list(plain_dues.cases(net, times, own))
            for thing in list(bends(all_cases[-1]))[::3] + list(NO_TUPLE) + all_cases:
                told = plain_dues.is_case(net, times, own, thing)
                self.assertIs(dues.is_case(net, times, own, thing), told, thing)
                right, wrong = right + told, wrong + (not told)
        self.assertGreater(min(right, wrong), 60)

    def test_forms_of_made_up_views(self):
        for seed in range(12):
            net, times, own = made_views.view(seed)
            case = list(plain_dues.cases(net, times, own))[-1]
            check_gives(self, dues.due_in, (net, times, own), plain_dues.due(net, times, own))
            check_gives(self, dues.worth_of, (net, times, own, case), plain_dues.worth(net, times, own, case))
            told = outcomes(self, dues.worst_case, (net, times, own))
            self.assertEqual(told, shape(dues.worst_case(net, times, own)))

    def test_many_sheets_and_locks(self):
        """As many channels and locks as there can be: this is not gone through lock by lock."""
        net = tuple((1, 2 + at % 6, 40, 40) for at in range(10))
        pages = []
        for at in range(10):
            for number in (1, 2):
                # Those of even channels are paid by 1, those of odd ones pay it; each image stands in several.
                locks = tuple(
                    (at % 2, 1, ("image", (at // 2 + own) % 12), 30 + 3 * own + number) for own in range(9 - number)
                )
                pages.append((at, number, (80 - len(locks), 0), locks))
        held = tuple(pages[2 * at] for at in range(10))
        own = (1, 3, (None,) * 10, held, tuple(pages), (), ())
        case = dues.worst_case(net, (2, 3, 4), own)
        self.assertEqual(dues.due_in(net, (2, 3, 4), own), plain_dues.worth(net, (2, 3, 4), own, case))


def sealed_payments(before, behind):
    """What the LOCKS of own payments come to that are in a SHEET that a steady one sealed between two minds."""
    own = {book[0]: book[1] for book in behind[4]}
    begun = {(pair[2], pair[1]) for pair in behind[8] if pair[0] is None}
    old, fresh = [
        {(page[0], lock) for page in minds.given_by(mind) for lock in page[3] if lock[0] == own[page[0]]}
        for mind in (before, behind)
    ]
    return sum(lock[1] for channel, lock in fresh - old if (channel, lock[2]) in begun)


class AlongPlays(unittest.TestCase):
    def check(self, seeds, many_steady):
        """What is due never falls but by an own payment, and in the end there is at least that."""
        seen = collections.Counter()
        for seed in seeds:
            make, args = made_worlds.begun(seed, many_steady)
            along, made = made_worlds.played(make, worlds.begun_world(*args))
            for place, person in enumerate(args[2]):
                told = [dues.due(world, person) for world in along]
                self.assertEqual(told[0], made_worlds.has_at_first(along[0], person) - sealed_payments(
                    minds.begun_mind(*args[:2], person, (), (), (0, 0, 0)), along[0][5][place]))
                for at in range(len(made)):
                    paid = sealed_payments(along[at][5][place], along[at + 1][5][place])
                    self.assertGreaterEqual(told[at + 1], told[at] - paid, (seed, person, at))
                    seen["falls"] += told[at + 1] < told[at]
                    seen["rises"] += told[at + 1] > told[at]
                last = along[-1]
                end = ends_with(last[0], last[4], last[1], last[3])[person]
                self.assertGreaterEqual(end, told[-1])
            self.count(seen, along, made)
        # Between one alone and the rest no letter is carried.
        for word in ("falls", "rises", "elder", "shown", "late") + (() if many_steady == 1 else ("doubled",)):
            self.assertGreater(seen[word], 20, seen)

    def count(self, seen, along, made):
        seen["elder"] += any(
            entry is not None and entry[0][1] > own[0][1]
            for world in along for own, entry in zip(world[4], along[-1][4]) if own is not None
        )
        seen["shown"] += any(entry[2] for entry in along[-1][4] if entry is not None)
        seen["doubled"] += any(len(set(letters)) < len(letters) for _, letters in made)
        seen["late"] += any(worlds.forced(world) for world in along)

    def test_one_alone(self):
        self.check(range(3000, 3180), 1)

    def test_several(self):
        self.check(range(4000, 4120), None)

    def test_due_of_worlds(self):
        for seed in range(8):
            make, args = made_worlds.begun(seed)
            along, _ = made_worlds.played(make, worlds.begun_world(*args))
            for world in along[::25]:
                for person in range(9):
                    if person in args[2]:
                        own = worlds.view_of(world, person)
                        self.assertIs(dues.is_view(world[0], own), True)
                        check_gives(self, dues.due, (world, person), plain_dues.due(world[0], world[1], own))
                    else:
                        check_raises(self, dues.due, (world, person), Unfit())


if __name__ == "__main__":
    unittest.main()
