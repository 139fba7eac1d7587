"""Clocks beside a plain going through of all moments, and the ledger's answer at each last moment."""

import itertools
import unittest

from suredue import clocks
from suredue.ledger import begun_ledger, comes, is_settled, lies, opened_in
from support import check_gives

TIMES = (4, 3, 6)
ALL_TIMES = [(delay, look, wait) for delay, look in itertools.product(range(1, 6), range(1, 6)) for wait in (0, 3, 7)]
NET = ((0, 1, 5, 5),)
OLD, NEW = (0, 0, (5, 5), ()), (0, 1, (2, 8), ())


def looks(times, last):
    return range(0, last + 1, times[1])


def last_look(times, last, judge):
    """The greatest look up to last of which judge is so; None if there is none."""
    return max((look for look in looks(times, last) if judge(look)), default=None)


def next_look(times, moment):
    while moment % times[1]:
        moment += 1
    return moment


def plain_show_by(times, end):
    return last_look(times, end, lambda look: look + times[0] <= end)


def plain_close_by(times, end):
    show = plain_show_by(times, end)
    return None if show is None else last_look(times, show, lambda look: look + times[0] <= show)


def stays(times, moment, handed, late):
    """Whether the elder sheet stays, closed at moment, the newest one handed in at handed and late so much."""
    there = comes(NET, begun_ledger(NET), times, moment, (("close", OLD),), (NEW,))
    return lies(comes(NET, there, times, handed + late, (("close", NEW),), (NEW,)), 0) == OLD


def opens(times, closed, shown, end):
    """Whether a lock with this end is opened, if its channel is closed and its secret shown at these moments."""
    page = (0, 1, (0, 5), ((0, 5, ("image", 7), end),))
    deeds = sorted([(closed, 1, ("close", page)), (shown, 0, ("show", 0, 7))])
    there = begun_ledger(NET)
    for moment, _, deed in deeds:
        # Of one moment the rest puts the show ahead.
        there = comes(NET, there, times, moment, (deed,), (page,))
    return opened_in(there, 0) != ()


class Given(unittest.TestCase):
    """Each function in every way in which it can be called."""

    def test_waits(self):
        check_gives(self, clocks.least_wait, (4, 3), 6)
        check_gives(self, clocks.least_wait, (10, 1), 10)
        for wait, told in ((5, False), (6, True), (7, True)):
            check_gives(self, clocks.enough_wait, ((4, 3, wait),), told)

    def test_last_looks(self):
        for end, show, close in ((3, None, None), (4, 0, None), (6, 0, None), (9, 3, None), (10, 6, 0), (20, 15, 9)):
            check_gives(self, clocks.show_by, (TIMES, end), show)
            check_gives(self, clocks.close_by, (TIMES, end), close)
        for moment, end, told in ((9, 20, True), (10, 20, False), (0, 9, False), (0, 10, True), (1, 10, False), (0, 0, False)):
            check_gives(self, clocks.in_time, (TIMES, moment, end), told)

    def test_gaps(self):
        for out_end, least in ((0, 4), (1, 7), (9, 13), (10, 16), (12, 16)):
            check_gives(self, clocks.least_in_end, (TIMES, out_end), least)
            check_gives(self, clocks.enough_gap, (TIMES, least, out_end), True)
            check_gives(self, clocks.enough_gap, (TIMES, least - 1, out_end), False)
        for in_end, told in ((16, 6), (21, 9), (22, None), (24, None), (9, None)):
            check_gives(self, clocks.go_by, (TIMES, in_end, 10), told)

    def test_rows_of_ends(self):
        check_gives(self, clocks.least_ends, (TIMES, 3, 10), (22, 16, 10))
        check_gives(self, clocks.least_ends, (TIMES, 1, 0), (0,))
        check_gives(self, clocks.begin_by, (TIMES, (22, 16, 10)), 0)
        check_gives(self, clocks.begin_by, (TIMES, (22, 20)), 9)
        check_gives(self, clocks.begin_by, (TIMES, (9, 20)), None)
        check_gives(self, clocks.begin_by, (TIMES, (20, 9)), None)
        for moment, ends, told in ((7, (), 20), (7, (12, 30), 31), (7, (19,), 20), (7, (20,), 21), (0, (), 11), (9, (3, 4), 20)):
            check_gives(self, clocks.settled_by, (TIMES, moment, ends), told)


class BesidePlain(unittest.TestCase):
    def test_least_wait(self):
        for delay, look in itertools.product(range(1, 6), range(1, 6)):
            for wait in range(delay + look + 2):
                times = (delay, look, wait)
                moments = range(1, 2 * look + 1)
                enough = not any(stays(times, own, next_look(times, own), delay) for own in moments)
                self.assertEqual(clocks.enough_wait(times), enough, times)
                self.assertEqual(clocks.least_wait(delay, look) <= wait, enough)
            # Whatever the rest chooses of the delays, the least wait does; with one less the worst moment is too late.
            least = clocks.least_wait(delay, look)
            for moment, late in itertools.product(range(1, 2 * look + 1), range(1, delay + 1)):
                self.assertFalse(stays((delay, look, least), moment, next_look((delay, look, least), moment), late))
            self.assertTrue(stays((delay, look, least - 1), 1, look, delay))

    def test_last_looks(self):
        for times in ALL_TIMES:
            for end in range(40):
                self.assertEqual(clocks.show_by(times, end), plain_show_by(times, end))
                self.assertEqual(clocks.close_by(times, end), plain_close_by(times, end))
                for moment in range(end + 2):
                    last = plain_close_by(times, end)
                    self.assertIs(clocks.in_time(times, moment, end), last is not None and moment in range(last + 1))

    def test_the_ledger_at_show_by(self):
        for times in ALL_TIMES[::3]:
            for end in range(1, 30):
                last = clocks.show_by(times, end)
                for look in looks(times, end + 2):
                    surely = all(opens(times, 0, look + late, end) for late in range(1, times[0] + 1))
                    self.assertEqual(surely, last is not None and look <= last, (times, end, look))

    def test_the_ledger_at_close_by(self):
        for times in ALL_TIMES[::3]:
            for end in range(1, 30):
                show, last = clocks.show_by(times, end), clocks.close_by(times, end)
                for look in looks(times, end + 2) if show is not None else ():
                    lates = itertools.product(range(1, times[0] + 1), repeat=2)
                    # The show does something only where the close lies already when it comes.
                    surely = all(look + one <= show and opens(times, look + one, show + two, end) for one, two in lates)
                    self.assertEqual(surely, last is not None and look <= last, (times, end, look))

    def test_gaps(self):
        for times in ALL_TIMES:
            for out_end in range(25):
                seen = next_look(times, out_end)
                for in_end in range(out_end, out_end + 14):
                    surely = all(opens(times, 0, seen + late, in_end) for late in range(1, times[0] + 1))
                    self.assertEqual(clocks.enough_gap(times, in_end, out_end), surely)
                    self.assertEqual(clocks.least_in_end(times, out_end) <= in_end, surely)
                    last = plain_close_by(times, in_end)
                    told = None if last is None or last >= seen else last
                    self.assertEqual(clocks.go_by(times, in_end, out_end), told)

    def test_who_goes_by_is_not_late(self):
        for times in ALL_TIMES[::3]:
            for out_end in range(1, 25):
                in_end = clocks.least_in_end(times, out_end)
                go, seen = clocks.go_by(times, in_end, out_end), next_look(times, out_end)
                if go is not None:
                    self.assertLess(go, seen)
                    # Closed by then the show of what is seen at last opens the lock; one look later it need not.
                    self.assertTrue(opens(times, go + times[0], seen + times[0], in_end))
                    if times[0] > 1 or go + times[1] + times[0] > seen + 1:
                        self.assertFalse(opens(times, go + times[1] + times[0], seen + 1, in_end))

    def test_rows_of_ends(self):
        for times in ALL_TIMES:
            for many, last in itertools.product(range(1, 6), (0, 1, 7, 12, 30)):
                ends = clocks.least_ends(times, many, last)
                self.assertEqual((len(ends), ends[-1]), (many, last))
                for at in range(many - 1):
                    self.assertTrue(clocks.enough_gap(times, ends[at], ends[at + 1]))
                    self.assertFalse(clocks.enough_gap(times, ends[at] - 1, ends[at + 1]))
            for ends in itertools.product((0, 5, 9, 17, 26), repeat=2):
                good = [look for look in looks(times, 40) if all(clocks.in_time(times, look, end) for end in ends)]
                self.assertEqual(clocks.begin_by(times, ends), max(good, default=None))

    def test_settled_by(self):
        for times in ALL_TIMES:
            for moment, end in itertools.product(range(12), (None, 3, 9, 15, 40)):
                page = (0, 1, (4, 5), ((0, 1, ("image", 7), end),)) if end is not None else (0, 1, (5, 5), ())
                since = next_look(times, moment) + times[0]
                there = comes(NET, begun_ledger(NET), times, since, (("close", page),), (page,))
                first = min(own for own in range(80) if is_settled(there, times, 0, own))
                ends = () if end is None else (end,)
                self.assertEqual(clocks.settled_by(times, moment, ends), first)
                self.assertEqual(clocks.settled_by(times, moment, (0,) + ends), first)


if __name__ == "__main__":
    unittest.main()
