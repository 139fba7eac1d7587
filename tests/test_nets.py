"""Nets: the most that can be paid beside what each lot of persons holds; rows judged by own sums."""

import itertools
import random
import unittest

import made_up
import plain_payments as plain
from suredue import nets
from suredue.errors import CanNot, Unfit
from suredue.sheets import first_sheet
from support import NO_TUPLE, bends, check_gives, check_raises, outcomes

NET = ((0, 1, 50, 30), (1, 2, 20, 20), (0, 2, 5, 5), (2, 3, 9, 0), (4, 5, 7, 7))
SHEETS = tuple(first_sheet(NET, own) for own in range(len(NET)))
LOCKS = ((0, 10, ("image", 10), 20), (1, 10, ("image", 8), 15))
LOCKED = ((0, 3, (30, 30), LOCKS), (1, 1, (15, 20), ((0, 5, ("image", 7), 90),))) + SHEETS[2:]


def drawn(seed, most=8, people=5):
    """A net, sheets of it, and its persons."""
    make, net = random.Random(seed), []
    for _ in range(make.randint(1, most)):
        one, other = make.sample(range(people), 2)
        net.append((one, other, make.randint(0, 6), make.randint(0, 6)))
    net = tuple(net)
    pages = tuple(made_up.sheet(make, net, channel, make.randint(0, 2)) for channel in range(len(net)))
    return net, pages, sorted({person for channel in net for person in channel[:2]})


class Most(unittest.TestCase):
    def test_beside_all_lots(self):
        """Also: bars are fewest and in all others, rows of the most and of less can be made, none of more can."""
        barred = several = 0
        for seed in range(300):
            net, pages, people = drawn(seed)
            for payer, payee in itertools.permutations(people, 2):
                most = plain.most_paid(net, pages, payer, payee)
                self.assertEqual(nets.most_paid(net, pages, payer, payee), most)
                bars = plain.bars(net, pages, payer, payee)
                fewest = nets.bar(net, pages, payer, payee)
                self.assertIn(fewest, bars)
                self.assertTrue(all(set(fewest) <= set(lot) for lot in bars))
                barred += len(bars) > 1
                for amount in {1, most // 2, most} - {0}:
                    if amount <= most:
                        row = nets.payments(net, pages, payer, payee, amount)
                        self.assertIsInstance(row, tuple)
                        self.assertEqual(sum(part for _, part in row), amount)
                        self.assertTrue(plain.are_payments(net, pages, payer, payee, row))
                        self.assertTrue(nets.are_payments(net, pages, payer, payee, row))
                        several += len(row) > 1
                self.assertRaises(CanNot, nets.payments, net, pages, payer, payee, most + 1)
        self.assertGreater(min(barred, several), 300)

    def test_ways_back(self):
        """What is paid by a way that bars others can be paid back over it: 0 to 3 over 1 and 2, crosswise."""
        net = ((0, 1, 5, 0), (0, 2, 5, 0), (1, 2, 5, 0), (1, 3, 5, 0), (2, 3, 5, 0))
        pages = tuple(first_sheet(net, own) for own in range(len(net)))
        check_gives(self, nets.most_paid, (net, pages, 0, 3), 10)
        self.assertEqual(sum(part for _, part in nets.payments(net, pages, 0, 3, 10)), 10)

    def test_great_sums(self):
        """Sums to a million with a narrow channel between: no way is gone over a million times."""
        big = 10 ** 6
        net = ((0, 1, big, 0), (0, 2, big, 0), (1, 2, 1, 1), (1, 3, big, 0), (2, 3, big, 0))
        pages = tuple(first_sheet(net, own) for own in range(len(net)))
        self.assertEqual(nets.most_paid(net, pages, 0, 3), 2 * big)
        self.assertLess(len(nets.payments(net, pages, 0, 3, 2 * big)), 9)

    def test_bounds(self):
        """Eight persons, ten channels."""
        for seed in range(40):
            net, pages, people = drawn(seed, 10, 8)
            for payer, payee in itertools.permutations(people[:4], 2):
                most = plain.most_paid(net, pages, payer, payee)
                self.assertEqual(nets.most_paid(net, pages, payer, payee), most)

    def test_forms(self):
        check_gives(self, nets.most_paid, (NET, SHEETS, 0, 2), 25)
        check_gives(self, nets.most_paid, (NET, LOCKED, 0, 2), 20)
        check_gives(self, nets.most_paid, (NET, SHEETS, 4, 5), 7)
        check_gives(self, nets.most_paid, (NET, SHEETS, 0, 5), 0)
        # A PERSON of no channel.
        check_gives(self, nets.most_paid, (NET, SHEETS, 0, 7), 0)
        check_gives(self, nets.most_paid, (NET, SHEETS, 7, 0), 0)
        for amount in (1, 20, 24, 25):
            told = outcomes(self, nets.payments, (NET, SHEETS, 0, 2, amount))
            self.assertEqual(told, repr(nets.payments(NET, SHEETS, 0, 2, amount)))
        check_raises(self, nets.payments, (NET, SHEETS, 0, 2, 26), CanNot())
        check_raises(self, nets.payments, (NET, SHEETS, 0, 7, 1), CanNot())
        check_gives(self, nets.bar, (NET, SHEETS, 0, 2), (0, 1))
        check_gives(self, nets.bar, (NET, SHEETS, 3, 0), (3,))
        check_gives(self, nets.bar, (NET, SHEETS, 0, 4), (0, 1, 2, 3))

    def test_like_payer_and_payee_first_of_all(self):
        """Also where all else is wrong."""
        for payer in (0, 3, 7):
            check_raises(self, nets.most_paid, (NET, SHEETS, payer, payer), Unfit())
            check_raises(self, nets.payments, (NET, SHEETS, payer, payer, 10 ** 6), Unfit())
            check_raises(self, nets.bar, (NET, SHEETS, payer, payer), Unfit())
            check_raises(self, nets.needed, (NET, SHEETS, payer, payer), Unfit())
            check_raises(self, nets.most_without, (NET, SHEETS, payer, payer, (payer,)), Unfit())
            check_raises(self, nets.most_without, (NET, SHEETS, payer, payer, ()), Unfit())
            for thing in ((), None, (payer,), [], ((((0,), 1),))):
                check_raises(self, nets.are_payments, (NET, SHEETS, payer, payer, thing), Unfit())
                check_raises(self, nets.is_bar, (NET, SHEETS, payer, payer, thing), Unfit())


class Rows(unittest.TestCase):
    ROW = (((0, 1), 20), ((2,), 5))

    def check(self, thing, told, net=NET, pages=SHEETS, payer=0, payee=2):
        self.assertIs(nets.are_payments(net, pages, payer, payee, thing), told, thing)
        self.assertIs(plain.are_payments(net, pages, payer, payee, thing), told, thing)

    def test_rows(self):
        for thing, told in (
            ((), True), (self.ROW, True), (self.ROW[::-1], True), (self.ROW + (((2,), 1),), False),
            ((((0, 1), 21),), False), ((((0, 1), 19), ((0, 1), 1)), True), ((((0, 1), 0),), False),
            ((((0,), 5),), False), ((((1,), 5),), False), ((((2, 1, 1), 1),), False), ((((), 1),), False),
            ((((0, 1), True),), False), (((0, 1), 1), False), ((([0, 1], 1),), False), ([((0, 1), 1)], False),
            ((((0, 1), 1, 1),), False), ((((0, 1),),), False), ((((9,), 1),), False), ((((-3,), 1),), False),
        ):
            self.check(thing, told)
        # What one PAYMENT brings the next one can pay on: by payer 1 to 0, two ways.
        self.check((((0,), 30), ((1, 2), 5)), True, payer=1, payee=0)
        self.check((((0,), 31),), False, payer=1, payee=0)

    def test_forms(self):
        check_gives(self, nets.are_payments, (NET, SHEETS, 0, 2, self.ROW), True)
        check_gives(self, nets.are_payments, (NET, SHEETS, 0, 2, list(self.ROW)), False)
        check_gives(self, nets.sums_behind, (NET, SHEETS, 0, self.ROW), ((30, 50), (0, 40), (0, 10), (9, 0), (7, 7)))
        check_gives(self, nets.sums_behind, (NET, SHEETS, 0, ()), tuple(channel[2:] for channel in NET))
        check_gives(self, nets.sums_behind, (NET, LOCKED, 1, (((0,), 2),)), ((32, 28), (15, 20), (5, 5), (9, 0), (7, 7)))
        # Each to whomever.
        mixed = (((0,), 1), ((0, 1), 2), ((2, 3), 3))
        check_gives(self, nets.sums_behind, (NET, SHEETS, 0, mixed), ((47, 33), (18, 22), (2, 8), (6, 3), (7, 7)))
        check_raises(self, nets.sums_behind, (NET, SHEETS, 0, (((2,), 5), ((2,), 1))), CanNot())
        check_raises(self, nets.sums_behind, (NET, SHEETS, 0, (((0,), 51),)), CanNot())
        # What is no route from payer can't be made, either.
        for route in ((1,), (), (0, 0), (9,)):
            check_raises(self, nets.sums_behind, (NET, SHEETS, 0, (((0,), 1), (route, 1))), CanNot())

    def test_bent_and_drawn_rows(self):
        right = wrong = 0
        for seed in range(120):
            net, pages, people = drawn(seed)
            make = random.Random(seed)
            payer, payee = make.sample(people, 2)
            most = nets.most_paid(net, pages, payer, payee)
            row = nets.payments(net, pages, payer, payee, make.randint(1, most)) if most else ()
            for thing in (row,) + tuple(bends(row)):
                told = plain.are_payments(net, pages, payer, payee, thing)
                self.assertIs(nets.are_payments(net, pages, payer, payee, thing), told, thing)
                right, wrong = right + told, wrong + (not told)
                if told:
                    sums = plain.behind(net, [page[2] for page in pages], payer, thing)
                    self.assertEqual(nets.sums_behind(net, pages, payer, thing), sums)
        self.assertGreater(min(right, wrong), 150)


class Lots(unittest.TestCase):
    def test_held_out(self):
        for persons, held in (((0,), 55), ((), 0), ((0, 1), 25), ((0, 1, 2, 3), 0), ((3,), 0), ((2, 3), 25), ((4,), 7), ((9,), 0)):
            check_gives(self, nets.held_out, (NET, SHEETS, persons), held)
        check_gives(self, nets.held_out, (NET, LOCKED, (0,)), 35)
        for seed in range(60):
            net, pages, people = drawn(seed)
            for many in range(len(people) + 1):
                for lot in itertools.combinations(people, many):
                    self.assertEqual(nets.held_out(net, pages, lot), plain.held_out(net, pages, lot))

    def test_bars(self):
        for thing, told in (
            ((0, 1), True), ((0,), False), ((0, 1, 3), True), ((0, 1, 2), False), ((1,), False), ((), False),
            # Those of no other channel hold nothing more, nor do those of none.
            ((0, 1, 4, 5), True), ((0, 1, 4), False), ((0, 1, 9), True), ((1, 0), False), ((0, 1, 1), False),
            ([0, 1], False), ((0, True), False), ((0, 1, -1), False), (None, False), ((0, "1"), False),
        ):
            check_gives(self, nets.is_bar, (NET, SHEETS, 0, 2, thing), told)
        for thing in NO_TUPLE:
            self.assertIs(nets.is_bar(NET, SHEETS, 0, 2, thing), False)
        for seed in range(80):
            net, pages, people = drawn(seed)
            for payer, payee in itertools.permutations(people, 2):
                bars = plain.bars(net, pages, payer, payee)
                for lot in plain.lots(net, payer, payee):
                    self.assertIs(nets.is_bar(net, pages, payer, payee, lot), lot in bars)
                if seed % 4 == 0:
                    for thing in bends(bars[-1]):
                        told = plain.is_bar(net, pages, payer, payee, thing)
                        self.assertIs(nets.is_bar(net, pages, payer, payee, thing), told, thing)

    def test_without(self):
        check_gives(self, nets.most_without, (NET, SHEETS, 0, 3, (1,)), 5)
        check_gives(self, nets.most_without, (NET, SHEETS, 0, 3, ()), 9)
        check_gives(self, nets.most_without, (NET, SHEETS, 0, 3, (2,)), 0)
        check_gives(self, nets.most_without, (NET, SHEETS, 0, 2, (1, 3, 9)), 5)
        for persons in ((0,), (3,), (0, 1), (1, 3)):
            check_raises(self, nets.most_without, (NET, SHEETS, 0, 3, persons), Unfit())
        check_gives(self, nets.needed, (NET, SHEETS, 0, 3), (2,))
        check_gives(self, nets.needed, (NET, SHEETS, 0, 2), ())
        check_gives(self, nets.needed, (NET, SHEETS, 3, 0), ())
        check_gives(self, nets.needed, (NET, SHEETS, 0, 4), ())
        row = tuple((own, own + 1, 3, 3) for own in range(5))
        check_gives(self, nets.needed, (row, tuple(first_sheet(row, own) for own in range(5)), 5, 1), (2, 3, 4))

    def test_without_beside_all_lots(self):
        several = 0
        for seed in range(120):
            net, pages, people = drawn(seed, 6, 4)
            for payer, payee in itertools.permutations(people, 2):
                others = [person for person in people if person not in (payer, payee)]
                alone = {}
                for many in range(len(others) + 1):
                    for lot in itertools.combinations(others, many):
                        bare = tuple(
                            page[:2] + ((0, 0), ()) if set(channel[:2]) & set(lot) else page
                            for channel, page in zip(net, pages)
                        )
                        most = plain.most_paid(net, bare, payer, payee)
                        self.assertEqual(nets.most_without(net, pages, payer, payee, lot), most)
                        alone[lot] = most
                wanted = tuple(person for person in others if alone[(person,)] == 0) if alone[()] else ()
                self.assertEqual(nets.needed(net, pages, payer, payee), wanted)
                several += wanted != ()
        self.assertGreater(several, 60)

    def test_locked_sums(self):
        for person, told in ((0, (10, 20)), (1, (15, 90)), (2, (0, None)), (9, (0, None))):
            check_gives(self, nets.locked_sums, (NET, LOCKED, person), told)
        for seed in range(60):
            net, pages, people = drawn(seed)
            for person in people:
                own = [lock for page in pages for lock in page[3] if net[page[0]][lock[0]] == person]
                told = (sum(lock[1] for lock in own), max(lock[3] for lock in own) if own else None)
                self.assertEqual(nets.locked_sums(net, pages, person), told)


if __name__ == "__main__":
    unittest.main()
