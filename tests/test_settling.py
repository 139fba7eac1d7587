"""Settling: each function in every way in which it can be called, its edges, and the guarantees."""

import unittest

import made_up
import plain
from suredue import ledger, settling
from suredue.errors import CanNot, NoPlace
from suredue.sheets import look_at
from support import DEEP, FORMS, bends, check_gives, check_raises, listed, outcomes, wrong_kinds

NET, TIMES = ((0, 1, 6, 4), (1, 2, 5, 5)), (1, 2, 2)
OLD, PAID = (0, 0, (6, 4), ()), (0, 2, (3, 7), ())
LOCKED = (0, 1, (5, 3), ((0, 2, ("image", 7), 9),))
BOTH = (0, 5, (2, 1), ((0, 3, ("image", 7), 6), (1, 4, ("image", 8), 8)))
FAR = (1, 3, (1, 0), ((1, 9, ("image", 7), 30),))
SEALED = (LOCKED, PAID, FAR)
BARE = (None, None)
SHUT = ((OLD, 1, ()), None)
WAIT_9 = (1, 2, 9)
NO_PLACES = (2, 3, 100, -1, -2, -3)


def with_locked(*shown):
    return ((LOCKED, 3, shown), None)


class States(unittest.TestCase):
    def test_state_of(self):
        for there, moment, state in (
            (SHUT, 0, "waiting"),
            (SHUT, 1, "waiting"),
            (SHUT, 3, "waiting"),
            (SHUT, 4, "settled"),
            (with_locked(), 5, "waiting"),
            (with_locked(), 6, "locked"),
            (with_locked(), 9, "locked"),
            (with_locked(), 10, "settled"),
            (with_locked((7, 9)), 5, "waiting"),
            (with_locked((7, 9)), 6, "settled"),
            (with_locked((7, 10)), 9, "locked"),
        ):
            check_gives(self, settling.state_of, (there, TIMES, 0, moment), state)
        check_gives(self, settling.state_of, (SHUT, TIMES, 1, 500), "open")

    def test_alone(self):
        for there, moment in (
            (SHUT, 4),
            (with_locked(), 10),
            (with_locked((7, 9)), 6),
            (with_locked((7, 10)), 10),
            (with_locked((8, 3)), 10),
            (((BOTH, 1, ()), None), 9),
            (((BOTH, 1, ((8, 1),)), None), 7),
        ):
            check_gives(self, settling.alone, (there, TIMES, 0), moment)
        check_gives(self, settling.alone, (SHUT, (1, 2, 0), 0), 2)

    def test_still_open(self):
        far = (with_locked()[0], (FAR, 2, ()))
        for there, moment, told in (
            (BARE, 5, ((0, "open", None), (1, "open", None))),
            (SHUT, 3, ((0, "waiting", 4), (1, "open", None))),
            (SHUT, 4, ((1, "open", None),)),
            (far, 5, ((0, "waiting", 10), (1, "locked", 31))),
            (far, 9, ((0, "locked", 10), (1, "locked", 31))),
            (far, 10, ((1, "locked", 31),)),
            (far, 31, ()),
        ):
            check_gives(self, settling.still_open, (there, TIMES, moment), told)


class Surely(unittest.TestCase):
    def check(self, there, moment, sealed, by, times=TIMES):
        check_gives(self, settling.surely_by, (there, times, 0, moment, sealed), by)

    def test_what_can_come_to_lie(self):
        self.check(SHUT, 1, SEALED, 10)
        self.check(SHUT, 2, SEALED, 10)
        self.check(SHUT, 3, SEALED, 4)
        self.check(SHUT, 1, (PAID,), 4)
        self.check(SHUT, 1, (), 4)

    def test_sheets_of_other_channels_do_not_count(self):
        self.check(SHUT, 1, (FAR,), 4)
        self.check(SHUT, 1, (FAR, LOCKED), 10)

    def test_elder_sheets_do_not_count(self):
        self.check(((PAID, 1, ()), None), 1, SEALED, 4)
        self.check(with_locked(), 3, (PAID, LOCKED), 10)
        self.check(with_locked((7, 4)), 4, (LOCKED, (0, 1, (0, 0), ((1, 10, ("image", 5), 40),))), 6)

    def test_secrets_that_were_shown(self):
        self.check(((OLD, 1, ((7, 1),)), None), 1, SEALED, 4)
        self.check(((OLD, 1, ((8, 1),)), None), 1, SEALED, 10)
        self.check(((OLD, 1, ((7, 1),)), None), 1, (BOTH,), 9)

    def test_ends_within_the_window(self):
        self.check(SHUT, 1, SEALED, 11, WAIT_9)
        self.check(SHUT, 1, SEALED, 10, (1, 2, 8))

    def test_long_behind(self):
        self.check(SHUT, 400, SEALED, 4)
        self.check(with_locked(), 400, SEALED, 10)

    def test_all_by(self):
        both = (SHUT[0], (FAR, 2, ()))
        for there, sealed, by in (
            (BARE, SEALED, 0),
            (SHUT, (), 4),
            (SHUT, SEALED, 10),
            (both, SEALED, 31),
            ((None, ((1, 0, (5, 5), ()), 1, ())), SEALED, 31),
            ((None, ((1, 0, (5, 5), ()), 1, ())), (LOCKED,), 4),
        ):
            check_gives(self, settling.all_by, (there, TIMES, 1, sealed), by)


class Late(unittest.TestCase):
    def check(self, told, there, moment, sealed, thing, times=TIMES):
        check_gives(self, settling.is_late, (NET, there, times, 0, moment, sealed, thing), told)

    def test_late_row_is_late(self):
        for there, moment, sealed in (
            (SHUT, 1, SEALED),
            (SHUT, 2, SEALED),
            (SHUT, 2, ()),
            (SHUT, 1, (BOTH, PAID)),
            (with_locked(), 8, SEALED),
        ):
            row = settling.late_row(there, TIMES, 0, moment, sealed)
            self.assertTrue(all(ledger.is_deed(NET, deed) for deed in row))
            self.check(True, there, moment, sealed, row)
            outcomes(self, settling.late_row, (there, TIMES, 0, moment, sealed))

    def test_no_late_row_at_the_first_settled_moment(self):
        for there, moment in ((SHUT, 3), (SHUT, 4), (with_locked(), 9), (with_locked(), 200), (with_locked((7, 4)), 5)):
            check_raises(self, settling.late_row, (there, TIMES, 0, moment, SEALED), CanNot())
            for thing in ((), (("close", LOCKED),), (("show", 0, 1),), 0, None, []):
                self.check(False, there, moment, SEALED, thing)

    def test_rows_that_are_late(self):
        self.check(True, SHUT, 1, SEALED, (("close", LOCKED),))
        self.check(True, SHUT, 2, SEALED, (("show", 0, 8), ("close", OLD), ("close", LOCKED), ("close", FAR)))
        self.check(True, SHUT, 1, (PAID,), (("close", PAID),))
        self.check(True, SHUT, 2, (), ())

    def test_rows_that_are_not(self):
        self.check(False, SHUT, 1, SEALED, ())
        self.check(False, SHUT, 1, SEALED, (("close", PAID),))
        self.check(False, SHUT, 1, SEALED, (("close", LOCKED), ("close", PAID)))
        self.check(False, SHUT, 1, SEALED, (("close", LOCKED), ("show", 0, 7)))
        self.check(False, SHUT, 1, SEALED, (("show", 0, 7), ("close", LOCKED)))
        self.check(False, SHUT, 3, SEALED, (("close", LOCKED),))

    def test_values_that_are_no_rows(self):
        row = (("close", LOCKED), ("show", 1, 3))
        self.check(True, SHUT, 1, SEALED, row)
        for thing in wrong_kinds(row):
            self.assertIs(settling.is_late(NET, SHUT, TIMES, 0, 1, SEALED, thing), False, thing)
        for thing in (
            (("show", 2, 3),) + row,
            (("show", -1, 3),) + row,
            (("close", (0, 1, (5, 4), LOCKED[3])),) + row,
            (("close", (0, 0, (5, 5), ())),) + row,
            row[0],
            (row,),
            listed(row),
        ) + DEEP:
            self.assertIs(settling.is_late(NET, SHUT, TIMES, 0, 1, SEALED, thing), False, thing)

    def test_things_are_judged_strictly_with_lists_elsewhere(self):
        row = (("close", LOCKED),)
        args = [listed(part) for part in (NET, SHUT, TIMES, 0, 1, SEALED)]
        self.assertIs(settling.is_late(*args, row), True)
        self.assertIs(settling.is_late(*args, listed(row)), False)


class Between(unittest.TestCase):
    def check(self, there, moment, sealed, secrets, ends, times=TIMES):
        check_gives(self, settling.between, (NET, there, times, 0, moment, sealed, secrets), ends)

    def test_which_sheets(self):
        self.check(SHUT, 1, (), (), ((6, 6), (4, 4)))
        self.check(SHUT, 1, (PAID,), (), ((3, 6), (4, 7)))
        self.check(SHUT, 2, (PAID,), (), ((3, 6), (4, 7)))
        self.check(SHUT, 3, (PAID,), (), ((6, 6), (4, 4)))
        self.check(SHUT, 1, (FAR,), (7,), ((6, 6), (4, 4)))

    def test_which_secrets(self):
        self.check(with_locked(), 4, (), (), ((7, 7), (3, 3)))
        self.check(with_locked(), 4, (), (7,), ((5, 7), (3, 5)))
        self.check(with_locked(), 4, (), (6, 8), ((7, 7), (3, 3)))
        self.check(with_locked((7, 4)), 4, (), (7,), ((5, 5), (5, 5)))
        self.check(with_locked((7, 4)), 4, (), (), ((5, 5), (5, 5)))

    def test_the_end_of_a_lock(self):
        self.check(with_locked(), 8, (), (7,), ((5, 7), (3, 5)))
        self.check(with_locked(), 9, (), (7,), ((7, 7), (3, 3)))
        self.check(with_locked((7, 10)), 10, (), (7,), ((7, 7), (3, 3)))

    def test_locks_of_both_sides(self):
        for secrets, ends in (
            ((), ((5, 5), (5, 5))),
            ((7,), ((2, 5), (5, 8))),
            ((8,), ((5, 9), (1, 5))),
            ((7, 8), ((2, 9), (1, 8))),
        ):
            self.check(((BOTH, 1, ()), None), 1, (), secrets, ends)

    def test_a_sheet_that_comes_with_locks(self):
        self.check(SHUT, 1, (BOTH,), (7, 8), ((2, 9), (1, 8)))
        self.check(((OLD, 1, ((7, 1),)), None), 1, (BOTH,), (8,), ((2, 6), (4, 8)))
        self.check(SHUT, 6, (BOTH,), (7, 8), ((5, 9), (1, 5)), WAIT_9)


class WrongCalls(unittest.TestCase):
    def calls(self, there, channel):
        """The calls that name a channel, but for that of state_of."""
        yield settling.alone, (there, TIMES, channel)
        yield settling.surely_by, (there, TIMES, channel, 1, SEALED)
        yield settling.late_row, (there, TIMES, channel, 1, SEALED)
        yield settling.between, (NET, there, TIMES, channel, 1, SEALED, (7,))
        for thing in ((), (("close", LOCKED),), None, [], (1,)):
            yield settling.is_late, (NET, there, TIMES, channel, 1, SEALED, thing)

    def test_open_channels(self):
        for there in (BARE, SHUT):
            for function, args in self.calls(there, 1):
                check_raises(self, function, args, CanNot())

    def test_channels_that_are_not_there(self):
        for there in (BARE, SHUT):
            for channel in NO_PLACES:
                check_raises(self, settling.state_of, (there, TIMES, channel, 1), NoPlace(channel))
                for function, args in self.calls(there, channel):
                    check_raises(self, function, args, NoPlace(channel))


def last_unsettled(net, times, sealed, there, channel, moment, along):
    """The last moment at which a channel is not settled, over all that comes behind moment."""
    late = 0
    for own in range(moment + 1):
        if not plain.Register(net, channel, times[2], sealed, there[channel]).settled(own):
            late = own
    for own, states in along.items():
        for state in states:
            if not plain.Register(net, channel, times[2], sealed, state).settled(own):
                late = max(late, own)
    return late


class Guarantees(unittest.TestCase):
    """What section 18 promises, beside a plain going through of all that can come."""

    def made(self, seeds, **bounds):
        for seed in seeds:
            yield (seed,) + made_up.closed_ledger(seed, secrets=(1, 2), last=8, **bounds)

    def test_surely_by(self):
        above = 0
        for seed, _, net, times, _, sealed, there, channel, moment in self.made(range(600), moments=4):
            last = plain.far_end(there[channel], times, sealed, channel)
            along = plain.all_that_comes(net, channel, there[channel], times, moment, sealed, (1, 2, 3), last)
            late = last_unsettled(net, times, sealed, there, channel, moment, along)
            by = settling.surely_by(there, times, channel, moment, sealed)
            self.assertEqual(by, late + 1, seed)
            self.assertGreaterEqual(by, settling.alone(there, times, channel))
            above += by > settling.alone(there, times, channel)
        self.assertGreater(above, 20)

    def test_between(self):
        wide = 0
        for seed, make, net, times, _, sealed, there, channel, moment in self.made(range(1000, 1250), moments=4):
            secrets = tuple(sorted(make.sample((1, 2, 3), make.randint(0, 3))))
            last = max(plain.far_end(there[channel], times, sealed, channel), moment + 1)
            along = plain.all_that_comes(net, channel, there[channel], times, moment, sealed, secrets, last)
            ends = [plain.Register(net, channel, times[2], sealed, state).sums() for state in along[last]]
            told = tuple((min(end[side] for end in ends), max(end[side] for end in ends)) for side in (0, 1))
            form = FORMS[seed % len(FORMS)]
            args = [form(arg) for arg in (net, there, times, channel, moment, sealed, secrets)]
            self.assertEqual(settling.between(*args), told, seed)
            wide += told[0][0] < told[0][1]
        self.assertGreater(wide, 40)

    def unsettled_till(self, net, times, there, channel, moment, row, sealed, by):
        """Whether row, coming at the next moment, leaves the channel unsettled at each moment ahead of by."""
        behind = plain.behind(net, there, times, moment + 1, row, sealed)
        book = plain.Register(net, channel, times[2], sealed, behind[channel])
        return not any(book.settled(own) for own in range(moment + 1, by))

    def test_late_row(self):
        found = 0
        for seed, _, net, times, _, sealed, there, channel, moment in self.made(range(2000, 2400)):
            by = settling.surely_by(there, times, channel, moment, sealed)
            args = (there, times, channel, moment, sealed)
            if by <= moment + 1:
                with self.assertRaises(CanNot):
                    settling.late_row(*args)
            else:
                row = settling.late_row(*args)
                found += 1
                self.assertTrue(all(plain.deed(net, deed) for deed in row))
                self.assertTrue(all(deed[0] == "show" or deed[1] in sealed for deed in row))
                self.assertTrue(self.unsettled_till(net, times, there, channel, moment, row, sealed, by), seed)
                self.assertIs(settling.is_late(net, *args, row), True)
        self.assertGreater(found, 100)

    def test_is_late(self):
        told = [0, 0]
        for seed, make, net, times, _, sealed, there, channel, moment in self.made(range(3000, 3400)):
            by = settling.surely_by(there, times, channel, moment, sealed)
            for _ in range(6):
                row = made_up.row(make, net, sealed, 3) if sealed else ()
                till = self.unsettled_till(net, times, there, channel, moment, row, sealed, by)
                late = by > moment + 1 and till
                args = (net, there, times, channel, moment, sealed, row)
                self.assertIs(settling.is_late(*args), late, (seed, row))
                told[late] += 1
        self.assertGreater(min(told), 200)

    def test_is_late_of_bent_rows(self):
        for seed, _, net, times, _, sealed, there, channel, moment in self.made(range(4000, 4040)):
            if settling.surely_by(there, times, channel, moment, sealed) > moment + 1:
                args = (net, there, times, channel, moment, sealed)
                row = settling.late_row(*args[1:])
                for thing in bends(row):
                    if thing.__class__ is not tuple or not all(plain.deed(net, deed) for deed in thing):
                        self.assertIs(settling.is_late(*args, thing), False, (seed, thing))

    def test_states_and_alone(self):
        for seed, _, net, times, _, sealed, there, _, moment in self.made(range(5000, 5200)):
            books = plain.registers(net, times, sealed, there)
            for own in range(moment, moment + 9):
                left = []
                for channel, book in enumerate(books):
                    state = "open"
                    if book.sheet is not None:
                        state = "settled" if book.settled(own) else "locked"
                        state = "waiting" if own <= book.since + times[2] else state
                    self.assertEqual(settling.state_of(there, times, channel, own), state, seed)
                    until = None
                    if book.sheet is not None:
                        until = settling.alone(there, times, channel)
                        self.assertEqual(book.settled(own), own >= until)
                        self.assertFalse(book.settled(until - 1))
                    if state != "settled":
                        left.append((channel, state, until))
                self.assertEqual(settling.still_open(there, times, own), tuple(left))

    def test_all_by(self):
        for _, _, _, times, _, sealed, there, _, moment in self.made(range(6000, 6200)):
            closed = [channel for channel in range(len(there)) if there[channel] is not None]
            most = max(settling.surely_by(there, times, channel, moment, sealed) for channel in closed)
            self.assertEqual(settling.all_by(there, times, moment, sealed), most)

    def test_settled_from_surely_by_on(self):
        for seed, make, net, times, pages, sealed, there, channel, moment in self.made(range(7000, 7300)):
            by = settling.surely_by(there, times, channel, moment, sealed)
            reach = settling.between(net, there, times, channel, moment, sealed, (1, 2, 3, 4))
            for own in range(moment + 1, moment + 16):
                there = ledger.comes(net, there, times, own, made_up.row(make, net, pages), sealed)
                if own >= by:
                    self.assertTrue(ledger.is_settled(there, times, channel, own), seed)
                # Nobody gets out of what was told, and later there is no more to come.
                later = settling.surely_by(there, times, channel, own, sealed)
                self.assertLessEqual(later, by)
            for worth, (least, most) in zip(ledger.has_in(net, there, channel), reach):
                self.assertTrue(least <= worth <= most, seed)

    def test_who_wants_to_leave_is_settled_in_time(self):
        for seed in range(300):
            make, net, times, _, sealed = made_up.world(seed, secrets=(1, 2), last=12)
            channel, wish = make.randrange(len(net)), make.randint(0, 9)
            latest = look_at(times, wish) + times[0]
            since = make.randint(1, latest)
            page = make.choice([own for own in sealed if own[0] == channel] + [(channel, 0, net[channel][2:], ())])
            there = (None,) * channel + ((page, since, ()),) + (None,) * (len(net) - channel - 1)
            ends = [lock[3] for own in sealed + (page,) if own[0] == channel for lock in own[3]]
            by = settling.surely_by(there, times, channel, since, sealed)
            self.assertLessEqual(by, max([latest + times[2]] + ends) + 1)


if __name__ == "__main__":
    unittest.main()
