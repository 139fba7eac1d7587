"""Watchers beside a plain going through of all moments, and the ledger behind their answers."""

import itertools
import random
import unittest

import plain
from suredue import watch
from suredue.clocks import least_wait
from suredue.errors import CanNot, TooMuch
from suredue.ledger import lies
from support import FORMS, check_gives, check_raises

ME, FRIEND = (6, 0, 2), (4, 1, 3)
BOTH = (ME, FRIEND)
# The least common multiple of the steps is 10,000, and 10,001.
MOST = ((100, 3, 5), (80, 7, 2), (16, 15, 9), (625, 600, 100))
OVER = ((73, 3, 5), (137, 7, 2))
WIDE = ((100, 0, 1), (99, 0, 1), (97, 0, 1))


def made(seed, many=4, step=6):
    make = random.Random(seed)
    found = []
    for _ in range(make.randint(1, many)):
        size = make.randint(1, step)
        found.append((size, make.randrange(size), make.randint(1, 5)))
    return make, tuple(found)


def period(watchers):
    whole = 1
    while any(whole % step for step, _, _ in watchers):
        whole += 1
    return whole


def plain_answer(watchers, moment):
    return min(plain.last_coming(own, moment) for own in watchers)


def plain_waits(watchers):
    """The dict of how far the answer is behind, for each moment of two rounds."""
    return {own: plain_answer(watchers, own) - own for own in range(1, 2 * period(watchers) + 1)}


class Given(unittest.TestCase):
    def test_is_watcher(self):
        for thing, told in (((1, 0, 1), True), ((3, 2, 1), True), ((3, 3, 1), False), ((0, 0, 1), False), ((3, 0, 0), False)):
            check_gives(self, watch.is_watcher, (thing,), told)

    def test_next_look(self):
        for moment, look in ((1, 1), (2, 5), (5, 5), (6, 9), (10 ** 6, 10 ** 6 + 1)):
            check_gives(self, watch.next_look, (FRIEND, moment), look)
        for moment, look in ((1, 90), (90, 90), (91, 190)):
            check_gives(self, watch.next_look, ((100, 90, 7), moment), look)

    def test_answered_at(self):
        for moment, told in ((1, 4), (2, 8), (6, 8), (7, 12)):
            check_gives(self, watch.answered_at, (BOTH, moment), told)

    def test_waits(self):
        check_gives(self, watch.wait_wanted, (BOTH,), 6)
        check_gives(self, watch.worst_moment, (BOTH,), 2)
        check_gives(self, watch.wait_wanted, (((1, 0, 1),),), 1)
        check_gives(self, watch.worst_moment, (((1, 0, 1),),), 1)
        check_gives(self, watch.worst_moment, (((5, 4, 1),),), 5)
        for wait, told in ((5, False), (6, True), (7, True)):
            check_gives(self, watch.is_enough, (BOTH, wait), told)

    def test_needless_and_fewest(self):
        check_gives(self, watch.needless, (BOTH,), (0,))
        check_gives(self, watch.needless, ((ME,),), ())
        check_gives(self, watch.needless, ((ME, ME),), (0, 1))
        check_gives(self, watch.needless, (((4, 0, 1), (4, 2, 1), (4, 2, 2)),), (2,))
        check_gives(self, watch.fewest, (BOTH, 7), (0,))
        check_gives(self, watch.fewest, (BOTH, 6), (1,))
        check_gives(self, watch.fewest, (((4, 0, 1), (9, 0, 9), (4, 2, 1)), 2), (0, 2))

    def test_late_pairs(self):
        check_gives(self, watch.too_little, (BOTH, 5), (2, (8, 8)))
        check_gives(self, watch.too_little, (BOTH, 0), (1, (8, 4)))
        check_gives(self, watch.is_too_little, (BOTH, 5, (2, (8, 8))), True)
        check_gives(self, watch.is_too_little, (BOTH, 6, (2, (8, 8))), False)
        check_gives(self, watch.is_too_little, (BOTH, 5, (14, (20, 20))), True)
        check_gives(self, watch.is_too_little, (BOTH, 0, (0, (2, 4))), False)
        for thing in ((2, (8,)), (2, (8, 8, 8)), (2, (8, 9)), (3, (8, 8)), (1, (8, 4)), (2, [8, 8]), [2, (8, 8)]):
            check_gives(self, watch.is_too_little, (BOTH, 5, thing), False)

    def test_ledger_behind(self):
        net, elder, newest = ((0, 1, 5, 5), (1, 2, 3, 3)), (0, 0, (5, 5), ()), (0, 2, (1, 9), ())
        for wait, page in ((5, elder), (6, newest)):
            told = ((page, 2, ()), None)
            check_gives(self, watch.ledger_behind, (net, (2, 6, wait), elder, newest, 2, BOTH, (2, 3)), told)
        check_gives(self, watch.ledger_behind, (net, (2, 6, 6), elder, newest, 2, (), ()), ((elder, 2, ()), None))
        check_gives(self, watch.ledger_behind, (net, (2, 6, 5), elder, newest, 2, BOTH, (1, 3)), ((newest, 2, ()), None))
        check_gives(self, watch.ledger_behind, (net, (2, 6, 4), elder, newest, 2, BOTH, (2, 1)), ((newest, 2, ()), None))
        late = (1, 1, (0, 0), ((0, 6, ("image", 7), 9),))
        told = (None, ((1, 2, (6, 0), ()), 6, ()))
        check_gives(self, watch.ledger_behind, (net, (2, 6, 1), late, told[1][0], 6, (ME,), (1,)), told)


class Refused(unittest.TestCase):
    def test_nobody_watches(self):
        check_raises(self, watch.answered_at, ((), 1), CanNot())
        for function in (watch.wait_wanted, watch.worst_moment, watch.needless):
            check_raises(self, function, ((),), CanNot())
        for wait in (0, 100):
            check_raises(self, watch.fewest, ((), wait), CanNot())
            check_raises(self, watch.too_little, ((), wait), CanNot())
            check_gives(self, watch.is_enough, ((), wait), False)
            check_gives(self, watch.is_too_little, ((), wait, (1, ())), False)

    def test_wait_that_is_or_is_not_enough(self):
        check_raises(self, watch.fewest, (BOTH, 5), CanNot())
        check_raises(self, watch.too_little, (BOTH, 6), CanNot())
        check_raises(self, watch.too_little, (BOTH, 100), CanNot())

    def test_too_much(self):
        for watchers in (OVER, WIDE, OVER + BOTH, ((10001, 0, 1),)):
            for function in (watch.wait_wanted, watch.worst_moment, watch.needless):
                check_raises(self, function, (watchers,), TooMuch())
            # Ahead of CanNot, whether the wait is enough or not.
            for wait in (0, 10 ** 6):
                for function in (watch.is_enough, watch.fewest, watch.too_little):
                    check_raises(self, function, (watchers, wait), TooMuch())
            self.assertGreater(watch.answered_at(watchers, 5), 5)
            lasts = tuple(plain.last_coming(own, 9) for own in watchers)
            self.assertTrue(watch.is_too_little(watchers, 0, (9, lasts)))

    def test_just_not_too_much(self):
        self.assertEqual(period(MOST), 10000)
        waits = plain_waits(MOST)
        most = max(waits.values())
        check_gives(self, watch.wait_wanted, (MOST,), most)
        self.assertEqual(watch.worst_moment(MOST), min(own for own in waits if waits[own] == most))
        self.assertTrue(watch.is_enough(MOST, most))
        self.assertFalse(watch.is_enough(MOST, most - 1))
        self.assertEqual(watch.too_little(MOST, most - 1)[0], watch.worst_moment(MOST))
        self.assertEqual(watch.wait_wanted(((10000, 0, 1),)), 10000)
        self.assertEqual(watch.wait_wanted(((99, 0, 1), (101, 0, 1))), 99)
        left = [at for at in range(4) if max(plain_waits(MOST[:at] + MOST[at + 1:]).values()) == most]
        self.assertEqual(watch.needless(MOST), tuple(left))
        self.assertEqual(watch.fewest(MOST, most), (2,))


class BesidePlain(unittest.TestCase):
    def test_looks(self):
        for seed in range(100):
            _, watchers = made(seed)
            for moment in range(1, 30):
                for own in watchers:
                    self.assertEqual(watch.next_look(own, moment) + own[2], plain.last_coming(own, moment))
                self.assertEqual(watch.answered_at(watchers, moment), plain_answer(watchers, moment))

    def test_waits(self):
        for seed in range(150):
            _, watchers = made(seed)
            waits = plain_waits(watchers)
            most = max(waits.values())
            self.assertEqual(watch.wait_wanted(watchers), most)
            self.assertEqual(watch.worst_moment(watchers), min(own for own in waits if waits[own] == most))
            form = FORMS[seed % len(FORMS)]
            for wait in range(most + 2):
                self.assertIs(watch.is_enough(form(watchers), wait), wait >= most)
                if wait < most:
                    first = min(own for own in waits if waits[own] > wait)
                    pair = watch.too_little(form(watchers), wait)
                    self.assertEqual(pair, (first, tuple(plain.last_coming(own, first) for own in watchers)))
                    self.assertTrue(watch.is_too_little(form(watchers), wait, pair))

    def test_needless_and_fewest(self):
        for seed in range(150):
            _, watchers = made(seed)
            most = max(plain_waits(watchers).values())
            every = range(len(watchers))
            without = [at for at in every if len(watchers) > 1
                       and max(plain_waits(watchers[:at] + watchers[at + 1:]).values()) == most]
            self.assertEqual(watch.needless(watchers), tuple(without))
            for wait in (most, most + 1, most + 3):
                lots = [lot for many in range(1, len(watchers) + 1) for lot in itertools.combinations(every, many)]
                good = [lot for lot in lots if max(plain_waits([watchers[at] for at in lot]).values()) <= wait]
                self.assertEqual(watch.fewest(watchers, wait), min(good, key=lambda lot: (len(lot), lot)))

    def test_more_watchers_want_no_more(self):
        for seed in range(100):
            make, watchers = made(seed)
            more = watchers + made(seed + 1000)[1][:1]
            self.assertLessEqual(watch.wait_wanted(more), watch.wait_wanted(watchers))
            mixed = list(more)
            make.shuffle(mixed)
            self.assertEqual(watch.wait_wanted(mixed), watch.wait_wanted(more))

    def test_a_steady_person(self):
        for delay, look in itertools.product(range(1, 8), range(1, 8)):
            self.assertEqual(watch.wait_wanted(((look, 0, delay),)), least_wait(delay, look))

    def test_the_ledger_behind_all_answers(self):
        net, elder, newest = ((0, 1, 5, 5),), (0, 1, (9, 1), ()), (0, 2, (1, 9), ())
        for seed in range(60):
            _, watchers = made(seed, 3, 4)
            for wait in range(watch.wait_wanted(watchers) + 2):
                stays = False
                for moment in range(1, period(watchers) + 1):
                    lasts = tuple(plain.last_coming(own, moment) for own in watchers)
                    for lates in itertools.product(*[(1, own[2]) for own in watchers]):
                        there = watch.ledger_behind(net, (1, 1, wait), elder, newest, moment, watchers, lates)
                        looks = [last - own[2] for last, own in zip(lasts, watchers)]
                        first = min(look + late for look, late in zip(looks, lates))
                        page = newest if first <= moment + wait else elder
                        self.assertEqual(there, ((page, moment, ()),))
                        stays = stays or lies(there, 0) == elder
                    late = watch.is_too_little(watchers, wait, (moment, lasts))
                    self.assertEqual(late, lies(there, 0) == elder)
                self.assertEqual(stays, not watch.is_enough(watchers, wait))


if __name__ == "__main__":
    unittest.main()
