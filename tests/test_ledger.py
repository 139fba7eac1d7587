"""The ledger: each function in every way in which it can be called, the edges of time, and the guarantees."""

import unittest

import made_up
import plain
from suredue import ledger
from suredue.errors import CanNot, NoPlace
from support import FORMS, check_gives, check_raises

NET, TIMES = ((0, 1, 6, 4), (3, 2, 5, 5)), (1, 2, 2)
OLD, PAID = (0, 0, (6, 4), ()), (0, 2, (3, 7), ())
LOCKED = (0, 1, (5, 3), ((0, 2, ("image", 7), 9),))
FAR = (1, 4, (1, 1), ((0, 3, ("image", 7), 6), (1, 5, ("image", 8), 8)))
SEALED = (LOCKED, PAID, FAR)
BARE = (None, None)
SHUT = ((OLD, 1, ()), None)
LYING = ((LOCKED, 3, ((8, 3), (7, 9))), (FAR, 2, ((7, 6), (8, 9))))
NO_PLACES = (2, 3, 100, -1, -2, -3)


class Begin(unittest.TestCase):
    def test_persons(self):
        check_gives(self, ledger.persons, (NET,), (0, 1, 2, 3))
        check_gives(self, ledger.persons, (((7, 3, 0, 0), (3, 5, 1, 1), (7, 5, 9, 9)),), (3, 5, 7))

    def test_begun_ledger(self):
        check_gives(self, ledger.begun_ledger, (NET,), BARE)
        check_gives(self, ledger.begun_ledger, (NET[:1],), (None,))

    def test_is_deed_and_is_ledger(self):
        check_gives(self, ledger.is_deed, (NET, ("close", LOCKED)), True)
        check_gives(self, ledger.is_deed, (NET, ("show", 1, 7)), True)
        check_gives(self, ledger.is_deed, (NET, ("show", 2, 7)), False)
        check_gives(self, ledger.is_ledger, (NET, LYING), True)
        check_gives(self, ledger.is_ledger, (NET, LYING[:1]), False)


class Does(unittest.TestCase):
    def check(self, told, there, moment, deed, sealed=SEALED, times=TIMES):
        check_gives(self, ledger.does, (NET, there, times, moment, deed, sealed), told)
        behind = ledger.comes(NET, there, times, moment, (deed,), sealed)
        self.assertEqual(behind != there, told)

    def test_close_of_an_open_channel(self):
        self.check(True, BARE, 1, ("close", OLD))
        self.check(True, BARE, 500, ("close", PAID))
        self.check(True, SHUT, 500, ("close", FAR))

    def test_close_in_the_window(self):
        self.check(True, SHUT, 1, ("close", LOCKED))
        self.check(True, SHUT, 3, ("close", LOCKED))
        self.check(False, SHUT, 4, ("close", LOCKED))
        self.check(True, SHUT, 1, ("close", PAID), times=(1, 2, 0))
        self.check(False, SHUT, 2, ("close", PAID), times=(1, 2, 0))

    def test_close_with_a_number_not_greater(self):
        other = (0, 1, (10, 0), ())
        there = ((LOCKED, 3, ()), None)
        for page in (OLD, LOCKED, other):
            self.check(False, there, 3, ("close", page), SEALED + (other,))
        self.check(True, there, 3, ("close", PAID))

    def test_sheets_that_are_not_sealed(self):
        for there in (BARE, SHUT):
            self.check(False, there, 2, ("close", LOCKED), ())
            self.check(False, there, 2, ("close", LOCKED), (PAID, FAR))
            self.check(False, there, 2, ("close", (0, 1, (6, 2), LOCKED[3])))
            self.check(True, there, 2, ("close", LOCKED), (LOCKED,))

    def test_sheets_0_are_sealed(self):
        self.check(True, BARE, 1, ("close", OLD), ())
        self.check(True, BARE, 1, ("close", (1, 0, (5, 5), ())), ())
        self.check(True, BARE, 1, ("close", OLD), (OLD,))

    def test_show(self):
        for moment in (1, 3, 4, 500):
            self.check(True, SHUT, moment, ("show", 0, 7))
            self.check(False, SHUT, moment, ("show", 1, 7))
            self.check(False, BARE, moment, ("show", 0, 7))

    def test_show_of_what_was_shown(self):
        self.check(False, LYING, 9, ("show", 0, 7))
        self.check(False, LYING, 9, ("show", 0, 8))
        self.check(True, LYING, 9, ("show", 0, 9))
        self.check(False, LYING, 500, ("show", 1, 8))
        self.check(True, ((OLD, 1, ((7, 1),)), (FAR, 1, ())), 2, ("show", 1, 7))

    def test_channels_that_are_not_there(self):
        for channel in NO_PLACES:
            check_raises(self, ledger.does, (NET, BARE, TIMES, 1, ("show", channel, 7), ()), NoPlace(channel))
            check_raises(self, ledger.comes, (NET, BARE, TIMES, 1, (("show", channel, 7),), ()), NoPlace(channel))


class Comes(unittest.TestCase):
    def check(self, there, moment, row, behind, sealed=SEALED):
        check_gives(self, ledger.comes, (NET, there, TIMES, moment, row, sealed), behind)

    def test_nothing_comes(self):
        for there in (BARE, SHUT, LYING):
            self.check(there, 5, (), there)

    def test_a_channel_is_closed(self):
        self.check(BARE, 1, (("close", OLD),), SHUT)
        self.check(BARE, 7, (("close", FAR),), (None, (FAR, 7, ())))

    def test_since_stays(self):
        self.check(SHUT, 3, (("close", PAID),), ((PAID, 1, ()), None))
        self.check(((OLD, 1, ((8, 2),)), None), 3, (("close", PAID),), ((PAID, 1, ((8, 2),)), None))

    def test_one_after_the_other(self):
        row = (("show", 0, 7), ("close", OLD), ("show", 0, 8), ("close", PAID), ("show", 0, 7), ("close", LOCKED))
        self.check(BARE, 2, row, ((PAID, 2, ((8, 2), (7, 2))), None))
        self.check(BARE, 2, row[::-1], ((LOCKED, 2, ((7, 2), (8, 2))), None), (LOCKED,))
        self.check(BARE, 2, row[::-1], ((PAID, 2, ((7, 2), (8, 2))), None))

    def test_both_channels(self):
        row = (("close", FAR), ("close", OLD), ("show", 1, 7), ("show", 0, 7))
        self.check(BARE, 3, row, ((OLD, 3, ((7, 3),)), (FAR, 3, ((7, 3),))))

    def test_a_deed_that_comes_twice(self):
        for there, deed in ((BARE, ("close", OLD)), (SHUT, ("close", LOCKED)), (SHUT, ("show", 0, 7))):
            once = ledger.comes(NET, there, TIMES, 2, (deed,), SEALED)
            self.assertNotEqual(once, there)
            self.check(there, 2, (deed, deed), once)

    def test_a_show_is_not_moved(self):
        self.check(((OLD, 1, ((7, 2),)), None), 3, (("show", 0, 7),), ((OLD, 1, ((7, 2),)), None))


class Along(unittest.TestCase):
    def test_along(self):
        rows = ((), (("close", OLD),), (("close", LOCKED), ("show", 0, 7)), (), (("close", PAID),))
        along = [
            BARE,
            BARE,
            ((OLD, 2, ()), None),
            ((LOCKED, 2, ((7, 3),)), None),
            ((LOCKED, 2, ((7, 3),)), None),
            ((LOCKED, 2, ((7, 3),)), None),
        ]
        check_gives(self, ledger.ledgers_along, (NET, TIMES, rows, SEALED), along)
        check_gives(self, ledger.ledgers_along, (NET, (1, 2, 3), rows, SEALED), along[:5] + [((PAID, 2, ((7, 3),)), None)])
        check_gives(self, ledger.ledgers_along, (NET, TIMES, (), ()), [BARE])

    def test_the_list_is_new(self):
        first = ledger.ledgers_along(NET, TIMES, ((("close", OLD),),), ())
        first.append("mine")
        self.assertEqual(ledger.ledgers_along(NET, TIMES, ((("close", OLD),),), ()), [BARE, SHUT])


class Lying(unittest.TestCase):
    def test_lies(self):
        check_gives(self, ledger.lies, (LYING, 0), LOCKED)
        check_gives(self, ledger.lies, (LYING, 1), FAR)
        check_gives(self, ledger.lies, (SHUT, 1), None)

    def test_opened_in(self):
        check_gives(self, ledger.opened_in, (LYING, 0), LOCKED[3])
        check_gives(self, ledger.opened_in, (LYING, 1), FAR[3][:1])
        check_gives(self, ledger.opened_in, (SHUT, 0), ())
        check_gives(self, ledger.opened_in, (SHUT, 1), ())
        both = (None, (FAR, 2, ((8, 2), (7, 6))))
        check_gives(self, ledger.opened_in, (both, 1), FAR[3])

    def test_a_show_at_the_end_and_one_later(self):
        for moment, opened in ((8, True), (9, True), (10, False)):
            there = ((LOCKED, 3, ((7, moment),)), None)
            check_gives(self, ledger.opened_in, (there, 0), LOCKED[3] if opened else ())
            check_gives(self, ledger.has_in, (NET, there, 0), (5, 5) if opened else (7, 3))
            check_gives(self, ledger.is_settled, (there, TIMES, 0, 6), opened)

    def test_a_secret_shown_while_an_elder_sheet_lay_there(self):
        along = ledger.ledgers_along(NET, TIMES, ((("close", OLD),), (("show", 0, 7),), (("close", LOCKED),)), SEALED)
        self.assertEqual(ledger.opened_in(along[3], 0), LOCKED[3])
        self.assertTrue(ledger.is_settled(along[3], TIMES, 0, 4))
        self.assertEqual(ledger.has_in(NET, along[3], 0), (5, 5))

    def test_a_secret_shown_in_another_channel(self):
        there = ((LOCKED, 3, ()), (FAR, 2, ((7, 3),)))
        check_gives(self, ledger.opened_in, (there, 0), ())


class Settled(unittest.TestCase):
    def check(self, there, channel, first, times=TIMES):
        for moment in range(first + 3):
            check_gives(self, ledger.is_settled, (there, times, channel, moment), moment >= first)

    def test_without_locks(self):
        self.check(SHUT, 0, 4)
        self.check(SHUT, 0, 2, (1, 2, 0))
        self.check(SHUT, 0, 10, (1, 2, 8))

    def test_with_a_lock(self):
        self.check(((LOCKED, 3, ()), None), 0, 10)
        self.check(((LOCKED, 3, ((7, 4),)), None), 0, 6)
        self.check(((LOCKED, 9, ()), None), 0, 12)
        self.check(((LOCKED, 3, ((8, 4),)), None), 0, 10)

    def test_with_two_locks(self):
        self.check((None, (FAR, 2, ())), 1, 9)
        self.check((None, (FAR, 2, ((8, 8),))), 1, 7)
        self.check((None, (FAR, 2, ((7, 6), (8, 8)))), 1, 5)

    def test_open_ones_are_not_settled(self):
        for moment in (0, 1, 100, 10 ** 9):
            check_gives(self, ledger.is_settled, (SHUT, TIMES, 1, moment), False)


class Having(unittest.TestCase):
    def test_has_in(self):
        check_gives(self, ledger.has_in, (NET, SHUT, 0), (6, 4))
        check_gives(self, ledger.has_in, (NET, LYING, 0), (5, 5))
        check_gives(self, ledger.has_in, (NET, LYING, 1), (1, 9))
        check_gives(self, ledger.has_in, (NET, (None, (FAR, 2, ())), 1), (4, 6))

    def test_ends_with(self):
        for moment, ends in ((4, (0, 0, 0, 0)), (5, (0, 0, 0, 0)), (6, (5, 5, 0, 0)), (8, (5, 5, 0, 0)), (9, (5, 5, 9, 1))):
            check_gives(self, ledger.ends_with, (NET, LYING, TIMES, moment), ends)
        check_gives(self, ledger.ends_with, (NET, BARE, TIMES, 500), (0, 0, 0, 0))

    def test_a_person_of_several_channels_and_one_of_none(self):
        net = ((1, 4, 3, 5), (4, 0, 7, 1))
        there = (((0, 0, (3, 5), ()), 1, ()), ((1, 0, (7, 1), ()), 2, ()))
        check_gives(self, ledger.ends_with, (net, there, TIMES, 4), (0, 3, 0, 0, 5))
        check_gives(self, ledger.ends_with, (net, there, TIMES, 5), (1, 3, 0, 0, 12))

    def test_open_channels(self):
        check_raises(self, ledger.has_in, (NET, SHUT, 1), CanNot())


class NoPlaces(unittest.TestCase):
    def test_no_place(self):
        for there in (BARE, LYING):
            for channel in NO_PLACES:
                check_raises(self, ledger.lies, (there, channel), NoPlace(channel))
                check_raises(self, ledger.opened_in, (there, channel), NoPlace(channel))
                check_raises(self, ledger.is_settled, (there, TIMES, channel, 5), NoPlace(channel))
                # Ahead of CanNot.
                check_raises(self, ledger.has_in, (NET, there, channel), NoPlace(channel))


class BesidePlain(unittest.TestCase):
    """Made-up runs beside the plain telling."""

    def test_ledgers_along(self):
        for seed in range(400):
            make, net, times, pages, sealed = made_up.world(seed)
            rows = made_up.rows(make, net, pages)
            there = [(None,) * len(net)]
            for moment, row in enumerate(rows, 1):
                there.append(plain.behind(net, there[-1], times, moment, row, sealed))
            form = FORMS[seed % len(FORMS)]
            args = [form(arg) for arg in (net, times, rows, sealed)]
            self.assertEqual(ledger.ledgers_along(*args), there, seed)

    def test_what_is_told_of_a_ledger(self):
        for seed in range(400):
            make, net, times, pages, sealed, there, _, moment = made_up.closed_ledger(seed)
            books = plain.registers(net, times, sealed, there)
            for own in range(moment, moment + 8):
                ends = [0] * (max(max(part[:2]) for part in net) + 1)
                for channel, book in enumerate(books):
                    self.assertEqual(ledger.is_settled(there, times, channel, own), book.settled(own))
                    if book.settled(own):
                        for side in (0, 1):
                            ends[net[channel][side]] += book.sums()[side]
                self.assertEqual(ledger.ends_with(net, there, times, own), tuple(ends))
            for channel, book in enumerate(books):
                if book.sheet is not None:
                    self.assertEqual(ledger.lies(there, channel), book.sheet)
                    self.assertEqual(ledger.has_in(net, there, channel), book.sums())
                    opened = tuple(lock for lock in book.sheet[3] if book.opened(lock))
                    self.assertEqual(ledger.opened_in(there, channel), opened)
            for _ in range(6):
                deed = made_up.deed(make, net, pages)
                told = any([book.take(deed, moment + 1) for book in plain.registers(net, times, sealed, there)])
                self.assertIs(ledger.does(net, there, times, moment + 1, deed, sealed), told)


class Guarantees(unittest.TestCase):
    """What section 5 promises for all rows."""

    def check_closed(self, net, times, channel, moment, elder, newer):
        """elder and newer are the ledgers at moment and at the next one; channel is closed in elder."""
        sheet, since, shown = elder[channel]
        self.assertIsNotNone(newer[channel])
        self.assertEqual(newer[channel][1], since)
        self.assertGreaterEqual(newer[channel][0][1], sheet[1])
        self.assertEqual(newer[channel][2][:len(shown)], shown)
        if moment + 1 > since + times[2]:
            self.assertEqual(newer[channel][0], sheet)
        if newer[channel][0] == sheet:
            before, after = ledger.opened_in(elder, channel), ledger.opened_in(newer, channel)
            for lock in sheet[3]:
                self.assertLessEqual(lock in before, lock in after)
                if moment + 1 > lock[3]:
                    self.assertEqual(lock in before, lock in after)
        if ledger.is_settled(elder, times, channel, moment):
            self.assertTrue(ledger.is_settled(newer, times, channel, moment + 1))
            self.assertEqual(ledger.has_in(net, newer, channel), ledger.has_in(net, elder, channel))
            self.assertEqual(sum(ledger.has_in(net, newer, channel)), sum(net[channel][2:]))

    def test_for_all_rows(self):
        settled = 0
        for seed in range(400):
            make, net, times, pages, sealed = made_up.world(seed, last=7)
            rows = made_up.rows(make, net, pages, 12)
            along = ledger.ledgers_along(net, times, rows, sealed)
            self.assertEqual(len(along), 13)
            for moment in range(12):
                self.assertTrue(ledger.is_ledger(net, along[moment + 1]))
                for channel in range(len(net)):
                    if along[moment][channel] is not None:
                        self.check_closed(net, times, channel, moment, along[moment], along[moment + 1])
                        settled += ledger.is_settled(along[moment], times, channel, moment)
        self.assertGreater(settled, 1000)

    def test_twice_is_once(self):
        for seed in range(400):
            make, net, times, pages, sealed, there, _, moment = made_up.closed_ledger(seed)
            row = made_up.row(make, net, pages, 4)
            twice = tuple(deed for deed in row for _ in (1, 2))
            once = ledger.comes(net, there, times, moment + 1, row, sealed)
            self.assertEqual(ledger.comes(net, there, times, moment + 1, twice, sealed), once)
            for deed in row:
                behind = ledger.comes(net, there, times, moment + 1, (deed,), sealed)
                self.assertIs(ledger.does(net, behind, times, moment + 1, deed, sealed), False)


if __name__ == "__main__":
    unittest.main()
