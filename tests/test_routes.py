"""Routes beside a plain going through of all ways."""

import itertools
import unittest

import made_up
import plain
import plain_rules
from suredue import routes
from suredue.clocks import least_in_end
from suredue.errors import CanNot, Unfit
from suredue.offers import changed
from suredue.sheets import first_sheet
from support import DEEP, FORMS, NO_NUMBER, check_gives, check_raises

NET = ((0, 1, 50, 30), (1, 2, 20, 20), (0, 2, 5, 5), (2, 3, 9, 0))
SHEETS = tuple(first_sheet(NET, channel) for channel in range(4))
TIMES = (4, 3, 6)
SEVEN = ("image", 7)
# Two channels between the same two, another one ahead of them.
TWICE = ((3, 4, 1, 1), (1, 0, 3, 7), (0, 1, 7, 2))
TWICE_SHEETS = tuple(first_sheet(TWICE, channel) for channel in range(3))


def made(seed):
    """A maker, a net, and for each channel one of its sheets."""
    make = made_up.maker(seed)
    net = made_up.net(make, 6)
    return make, net, tuple(made_up.sheet(make, net, channel, make.randint(0, 3)) for channel in range(len(net)))


def outcome(function, *args):
    try:
        return function(*args)
    except (CanNot, Unfit) as error:
        return error.__class__


class Given(unittest.TestCase):
    """Each function in every way in which it can be called."""

    def test_is_route(self):
        for net, payer, thing, told in (
            (NET, 0, (0, 1), True), (NET, 0, (0, 1, 3), True), (NET, 0, (2,), True), (NET, 3, (3, 2), True),
            (NET, 0, (0, 1, 2), False), (NET, 1, (2,), False), (NET, 0, (), False), (NET, 0, (4,), False),
            (NET, 0, (-1,), False),
            (NET, 2, (-1,), False), (NET, 0, (0, 0), False), (NET, 0, (0, 2), False), (NET, 9, (0,), False),
            (NET, 0, (0, True), False),
            (NET, 1, (False,), False), (NET, 0, [0, 1], False), (NET, 0, ((0,),), False), (TWICE, 0, (1, 2), False),
            (TWICE, 1, (2,), True), (TWICE, 1, (1, 0), False),
        ):
            check_gives(self, routes.is_route, (net, payer, thing), told)

    def test_walked_and_sides(self):
        for payer, route, people, paying in (
            (0, (0, 1, 3), (0, 1, 2, 3), (0, 0, 0)), (3, (3, 2), (3, 2, 0), (1, 1)), (2, (1, 0), (2, 1, 0), (1, 1)),
            (2, (2, 0), (2, 0, 1), (1, 0)),
            (0, (2,), (0, 2), (0,)),
        ):
            check_gives(self, routes.walked, (NET, payer, route), people)
            check_gives(self, routes.sides, (NET, payer, route), paying)

    def test_payment_locks(self):
        told = ((2, (0, 5, SEVEN, 16)), (3, (0, 5, SEVEN, 10)))
        check_gives(self, routes.payment_locks, (NET, 0, (2, 3), 5, SEVEN, (16, 10)), told)
        told = ((3, (1, 9, SEVEN, 0)), (2, (1, 9, SEVEN, 400)), (0, (0, 9, SEVEN, 3)))
        check_gives(self, routes.payment_locks, (NET, 3, (3, 2, 0), 9, SEVEN, (0, 400, 3)), told)

    def test_most_over(self):
        for payer, route, told in (
            (0, (0, 1, 3), 9), (0, (2, 3), 5), (3, (3, 2), 0), (2, (1, 0), 20), (0, (0,), 50), (1, (0,), 30),
        ):
            check_gives(self, routes.most_over, (NET, SHEETS, payer, route), told)
        pages = (changed(SHEETS[0], 0, ("add", (0, 41, SEVEN, 20))),) + SHEETS[1:]
        check_gives(self, routes.most_over, (NET, pages, 0, (0, 1)), 9)
        check_gives(self, routes.most_over, (NET, pages, 2, (1, 0)), 20)

    def test_routes(self):
        for payer, payee, most, told in (
            (0, 2, 3, [(2,), (0, 1)]), (0, 2, 1, [(2,)]), (0, 3, 2, [(2, 3)]), (0, 3, 9, [(2, 3), (0, 1, 3)]),
            (0, 0, 9, []), (0, 2, 0, []),
            (0, 7, 9, []), (7, 0, 9, []), (7, 7, 9, []), (3, 1, 10, [(3, 1), (3, 2, 0)]),
        ):
            check_gives(self, routes.routes, (NET, payer, payee, most), told)
        check_gives(self, routes.routes, (TWICE, 0, 1, 3), [(1,), (2,)])
        check_gives(self, routes.routes, (TWICE, 0, 4, 3), [])

    def test_routes_for(self):
        for payer, payee, amount, most, told in (
            (0, 2, 6, 9, [(0, 1)]), (0, 2, 5, 9, [(2,), (0, 1)]), (0, 2, 5, 1, [(2,)]), (0, 2, 6, 1, []),
            (0, 2, 20, 9, [(0, 1)]), (0, 2, 21, 9, []),
        ):
            check_gives(self, routes.routes_for, (NET, SHEETS, payer, payee, amount, most), told)

    def test_first_ones(self):
        for payer, payee, told in ((0, 3, (2, 3)), (0, 2, (2,)), (3, 1, (3, 1))):
            check_gives(self, routes.shortest, (NET, payer, payee), told)
        for amount, told in ((1, (2, 3)), (5, (2, 3)), (6, (0, 1, 3)), (9, (0, 1, 3))):
            check_gives(self, routes.best_route, (NET, SHEETS, 0, 3, amount), told)
        # Of two with the greatest sum the first one; nothing at all may be the most.
        for payer, payee, told in ((0, 3, (0, 1, 3)), (0, 2, (0, 1)), (3, 1, (3, 1)), (3, 0, (3, 2))):
            check_gives(self, routes.widest, (NET, SHEETS, payer, payee), told)
        check_gives(self, routes.widest, (TWICE, TWICE_SHEETS, 0, 1), (1,))
        check_gives(self, routes.widest, (TWICE, TWICE_SHEETS, 1, 0), (1,))
        check_gives(self, routes.best_route, (TWICE, TWICE_SHEETS, 1, 0, 3), (1,))

    def test_ends(self):
        for ends, told in (
            ((16, 10), True), ((15, 10), False), ((10,), True), ((), True),
            ((22, 16, 10), True), ((22, 15, 10), False), ((21, 16, 10), False),
        ):
            check_gives(self, routes.are_safe, (TIMES, ends), told)
        for ends, told in (((16, 10, 3), ((6, 12), (0, 6), (None, None))), ((), ()), ((4,), ((None, 0),))):
            check_gives(self, routes.last_looks, (TIMES, ends), told)

    def test_wish_for(self):
        check_gives(self, routes.wish_for, (TIMES, (2, 3), 5, 7, 1, 10), (1, ("pay", (2, 3), 5, SEVEN, (16, 10))))
        check_gives(self, routes.wish_for, (TIMES, (2,), 1, 0, 0, 0), (0, ("pay", (2,), 1, ("image", 0), (0,))))
        # It does not look whether this is a route.
        told = (1, ("pay", (9, 9, 9), 5, SEVEN, (22, 16, 10)))
        check_gives(self, routes.wish_for, (TIMES, (9, 9, 9), 5, 7, 1, 10), told)


class Refused(unittest.TestCase):
    WRONG = (
        (), (4,), (-1,), (1,), (0, 0), (0, 1, 2), (0, 3),
        (True,), (False,), (None,), ("0",), ((0,),), (0, (1,)), (0, 1, None), (0.0,),
    )

    def test_no_route(self):
        for route in self.WRONG + NO_NUMBER[:8] + ("", "01", 0, 1) + DEEP:
            for form in FORMS:
                told = form(route)
                self.assertRaises(Unfit, routes.walked, NET, 0, told)
                self.assertRaises(Unfit, routes.sides, NET, 0, told)
                self.assertRaises(Unfit, routes.most_over, NET, SHEETS, 0, told)
                # First of all: here the ends are not as many, either.
                self.assertRaises(Unfit, routes.payment_locks, NET, 0, told, 5, SEVEN, (1,) * 9)
        check_raises(self, routes.walked, (NET, 0, (1,)), Unfit())
        check_raises(self, routes.sides, (NET, 0, (0, 1, 2)), Unfit())
        check_raises(self, routes.most_over, (NET, SHEETS, 0, ()), Unfit())

    def test_ends_that_are_not_as_many(self):
        for ends in ((), (16,), (16, 10, 4)):
            check_raises(self, routes.payment_locks, (NET, 0, (2, 3), 5, SEVEN, ends), Unfit())
        check_raises(self, routes.payment_locks, (NET, 0, (), 5, SEVEN, ()), Unfit())

    def test_none(self):
        check_raises(self, routes.shortest, (NET, 0, 0), CanNot())
        check_raises(self, routes.shortest, (NET, 0, 7), CanNot())
        check_raises(self, routes.shortest, (TWICE, 0, 3), CanNot())
        check_raises(self, routes.widest, (NET, SHEETS, 0, 0), CanNot())
        check_raises(self, routes.widest, (NET, SHEETS, 7, 0), CanNot())
        check_raises(self, routes.best_route, (NET, SHEETS, 0, 3, 10), CanNot())
        check_raises(self, routes.best_route, (NET, SHEETS, 0, 0, 1), CanNot())
        check_raises(self, routes.best_route, (NET, SHEETS, 3, 0, 1), CanNot())

    def test_lists_are_new(self):
        for call in (lambda: routes.routes(NET, 0, 3, 9), lambda: routes.routes_for(NET, SHEETS, 0, 3, 1, 9)):
            first = call()
            self.assertIs(first.__class__, list)
            first.append(None)
            self.assertIsNot(call(), first)
            self.assertEqual(call(), [(2, 3), (0, 1, 3)])


class BesideAllWays(unittest.TestCase):
    def test_is_route(self):
        for seed in range(40):
            _, net, _ = made(seed)
            for payer, many in itertools.product(range(5), range(4)):
                for way in itertools.product(range(-1, len(net) + 1), repeat=many):
                    self.assertIs(routes.is_route(net, payer, way), plain_rules.is_route(net, payer, way))

    def test_routes(self):
        seen = 0
        for seed in range(60):
            _, net, _ = made(seed)
            for payer, payee in itertools.product(range(4), repeat=2):
                for most in range(5):
                    found = routes.routes(net, payer, payee, most)
                    self.assertEqual(found, plain_rules.routes(net, payer, payee, most))
                    people = {own for part in net for own in part[:2]}
                    self.assertLess(max([len(way) for way in found], default=0), len(people))
                    seen += len(found)
        self.assertGreater(seen, 500)

    def test_walked_and_sides(self):
        for seed in range(60):
            _, net, _ = made(seed)
            for payer, payee in itertools.product(range(4), repeat=2):
                for way in plain_rules.routes(net, payer, payee, 4):
                    people = plain_rules.come_to(net, payer, way)
                    self.assertEqual(routes.walked(net, payer, way), people)
                    told = tuple(net[own][:2].index(person) for own, person in zip(way, people))
                    self.assertEqual(routes.sides(net, payer, way), told)

    def test_sums(self):
        for seed in range(60):
            _, net, pages = made(seed)
            for payer, payee in itertools.product(range(4), repeat=2):
                all_ways = plain_rules.routes(net, payer, payee, 4)
                sums = [plain_rules.most_over(net, pages, payer, way) for way in all_ways]
                self.assertEqual([routes.most_over(net, pages, payer, way) for way in all_ways], sums)
                for amount, most in itertools.product(range(1, 8), range(4)):
                    fits = [way for way, over in zip(all_ways, sums) if over >= amount]
                    told = routes.routes_for(net, pages, payer, payee, amount, most)
                    self.assertEqual(told, [way for way in fits if len(way) <= most])
                    self.assertEqual(outcome(routes.best_route, net, pages, payer, payee, amount), (fits + [CanNot])[0])
                self.assertEqual(outcome(routes.shortest, net, payer, payee), (all_ways + [CanNot])[0])
                widest = all_ways[sums.index(max(sums))] if sums else CanNot
                self.assertEqual(outcome(routes.widest, net, pages, payer, payee), widest)

    def test_a_payment_can_be_put_on_all_sheets(self):
        for seed in range(60):
            _, net, pages = made(seed)
            for payer, payee, amount in itertools.product(range(4), range(4), (1, 2, 4)):
                for way in plain_rules.routes(net, payer, payee, 4):
                    told = routes.payment_locks(net, payer, way, amount, ("image", 9), tuple(range(len(way))))
                    locks = [(own, (amount, ("image", 9), at)) for at, own in enumerate(way)]
                    self.assertEqual([(own, lock[1:]) for own, lock in told], locks)
                    fresh = [plain.changed(pages[own], lock[0], ("add", lock)) for own, lock in told]
                    self.assertIs(None not in fresh, routes.most_over(net, pages, payer, way) >= amount)

    def test_safe_ends(self):
        for delay, look in itertools.product(range(1, 4), range(1, 4)):
            times = (delay, look, 9)
            for ends in itertools.product(range(0, 14, 2), range(1, 9), range(4)):
                gaps = [own >= plain_rules.next_look(times, later) + delay for own, later in zip(ends, ends[1:])]
                self.assertIs(routes.are_safe(times, ends), all(gaps))
                looks = tuple((plain_rules.last_close(times, end), plain_rules.last_show(times, end)) for end in ends)
                self.assertEqual(routes.last_looks(times, ends), looks)
            for many in range(1, 5):
                wish = routes.wish_for(times, tuple(range(many)), 3, 8, 2, 7)
                self.assertEqual(wish[:1] + wish[1][:4], (2, "pay", tuple(range(many)), 3, ("image", 8)))
                ends = wish[1][4]
                self.assertTrue(routes.are_safe(times, ends))
                self.assertEqual((len(ends), ends[-1]), (many, 7))
                # With one moment less an end is not enough for the next one.
                self.assertEqual([least_in_end(times, own) for own in ends[1:]], list(ends[:-1]))


if __name__ == "__main__":
    unittest.main()
