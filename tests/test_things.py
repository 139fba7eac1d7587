"""What judges a thing: values that are right, and such as are bent in one place."""

import inspect
import unittest

import made_up
import made_worlds
import plain
import plain_dues
import plain_games
import plain_judge
import plain_payments
import plain_plans
import plain_rules
import plain_shell
import plain_worlds
from made_claims import AGAINST, FALSE, TRUE
from suredue import dues, games, judge, ledger, letters, nets, offers, plans, routes, sheets, shell, takings, watch, worlds
from support import DEEP, NO_NUMBER, NO_TUPLE, bends, listed, nested, put, wrong_kinds

NET = ((0, 1, 50, 30), (1, 2, 20, 20), (5, 0, 0, 0))
IMAGE = ("image", 7)
LOCKS = ((0, 10, ("image", 7), 20), (1, 10, ("image", 8), 15))
PAGE = (0, 3, (30, 30), LOCKS)
FIRST = (1, 0, (20, 20), ())
SHUT = (PAGE, 4, ((7, 4), (9, 4), (8, 6)))
BIG = 10 ** 40
MORE = (0, 4, (25, 30), LOCKS + ((0, 5, ("image", 9), 11),))
LESS = (0, 4, (30, 40), LOCKS[1:])
WATCHERS = ((6, 0, 2), (4, 1, 3))
WORLD = made_worlds.busy()
SIGNED = (0, 1, (50, 30), ())
VIEW = (
    0, 9, (SHUT, (FIRST, 9, ()), None), (MORE, None, (2, 5, (0, 0), ())), ((0, 1, (50, 30), ()), PAGE, MORE), (7, 8),
    ((("close", MORE), 8), (("show", 1, 9), 0), (("show", 0, 8), BIG)),
)
LATE = ("channel", (2, 3, 3), (4, 9, 6), 5)
MIDDLE = ("middle", (2, 1, 2), 5, 5, 3, 7)
LATE_PLAN = ((("close", "in", 0), ("close", "in", 1)), (("close", "in", 0),), (), (), (("late", "in"),))
# A taking from the moment on at which its letters have come.
TAKING, WHOLE_PLAN = takings.taking("wait", 1, 2)
HALF_TAKEN, TAKING_PLAN = plans.played_out(TAKING, WHOLE_PLAN[:2]), WHOLE_PLAN[2:]
# More channels and persons than the bounds.
CHAIN = tuple((own, own + 1, BIG, 0) for own in range(20))

RIGHT = {
    sheets.is_person: (0, 1, 7, 8, BIG),
    sheets.is_times: ((1, 1, 0), (3, 2, 4), (11, 12, 41), (BIG, BIG, BIG)),
    sheets.is_channel: ((0, 1, 0, 0), (1, 0, 50, 30), (8, 9, BIG, BIG)),
    sheets.is_net: (NET, NET[:1], NET * 40),
    sheets.is_image: (("image", 0), IMAGE, ("image", BIG)),
    sheets.is_lock: (LOCKS + ((0, 1, ("image", 0), 0), (1, BIG, ("image", BIG), BIG))),
    offers.is_change: (("pass",), ("add", LOCKS[0]), ("add", (1, BIG, ("image", BIG), 0)), ("pay", IMAGE), ("drop", IMAGE)),
    watch.is_watcher: ((1, 0, 1), (6, 5, 2), (BIG, BIG - 1, BIG), (101, 0, 101)),
    games.is_game: (
        LATE, MIDDLE, ("channel", (BIG, BIG, BIG), (0,) * 20, BIG), ("channel", (1, 1, 0), (BIG,), 0),
        ("middle", (11, 12, 0), BIG, 0, BIG, 600),
    ),
    judge.is_claim: TRUE + FALSE,
    shell.is_request: ("steady 0 12", "net\n x", "quiet 0", "wishes 7\n \n  y", "moment"),
}

RIGHT_IN_NET = {
    sheets.is_sheet: (PAGE, FIRST, (1, 1, (20, 20), ()), (1, BIG, (40, 0), ()), (2, 5, (0, 0), ())),
    ledger.is_deed: (("close", PAGE), ("close", FIRST), ("show", 0, 0), ("show", 2, BIG)),
    ledger.is_ledger: ((None, None, None), (SHUT, None, None), (None, (FIRST, 0, ()), None), (SHUT, (FIRST, BIG, ()), None)),
    letters.is_letter: (
        ("offer", PAGE),
        ("agree", FIRST),
        ("turn", 0, 0),
        ("secret", 2, BIG),
        ("pass", 1, IMAGE, (), ()),
        ("pass", 0, IMAGE, (1, 2, 2), (30, 0, BIG)),
    ),
    offers.is_book: (
        (0, 0, PAGE, None, False, ()),
        (0, 1, PAGE, None, False, (("drop", IMAGE), ("pass",), ("add", LOCKS[0]))),
        (0, 0, PAGE, None, True, (("pay", ("image", 99)),)),
        (0, 0, PAGE, MORE, False, ()),
        (0, 0, PAGE, LESS, False, (("pass",),)),
        (0, 0, PAGE, (0, 4, (30, 40), LOCKS[:1]), False, ()),
        (1, 1, FIRST, (1, 1, (20, 20), ()), False, ()),
        (1, 1, (1, BIG, (20, 20), ()), None, False, (("pass",),) * 20),
        (1, 0, FIRST, None, False, (("pass",),)),
    ),
    dues.is_view: (VIEW, (5, BIG, (None,) * 3, (None, None, (2, 0, (0, 0), ())), (), (BIG,), ()), put(VIEW, (4,), ())),
}

# What else stands ahead of the thing.
RIGHT_BEHIND = {
    watch.is_too_little: (
        ((WATCHERS, 5), (2, (8, 8))),
        ((WATCHERS, 0), (5, (8, 8))),
        ((WATCHERS[:1], 6), (1, (8,))),
        ((WATCHERS[:1], 6), (601, (608,))),
    ),
    routes.is_route: (
        ((NET, 0), (0,)),
        ((NET, 0), (0, 1)),
        ((NET, 5), (2, 0, 1)),
        ((NET, 2), (1, 0, 2)),
        ((NET, 1), (0, 2)),
        ((CHAIN, 0), tuple(range(20))),
        ((CHAIN, 20), tuple(range(20))[::-1]),
    ),
    nets.are_payments: (
        ((NET, (PAGE, FIRST, (2, 0, (0, 0), ())), 0, 2), (((0, 1), 12), ((0, 1), 8))),
        ((NET, (PAGE, FIRST, (2, 0, (0, 0), ())), 1, 0), (((0,), 30),)),
        ((CHAIN, tuple((own, 0, (BIG, 0), ()) for own in range(20)), 0, 20), ((tuple(range(20)), BIG),)),
    ),
    nets.is_bar: (
        ((NET, (PAGE, FIRST, (2, 0, (0, 0), ())), 0, 2), (0, 1)),
        ((NET, (PAGE, FIRST, (2, 0, (0, 0), ())), 0, 2), (0, 1, 5, 9)),
        ((NET, (PAGE, FIRST, (2, 0, (0, 0), ())), 5, 2), (5,)),
    ),
    dues.is_case: (
        ((NET, (2, 3, 9), VIEW), ((MORE, None, (2, 5, (0, 0), ())), ((0, IMAGE), (0, ("image", 9))))),
        ((NET, (2, 3, 9), put(VIEW, (2, 0, 2), ())), ((MORE, None, (2, 5, (0, 0), ())), ((0, ("image", 9)),))),
        ((NET, (2, 3, 9), put(VIEW, (2, 0, 2), ())), ((MORE, None, (2, 5, (0, 0), ())), ())),
        ((NET, (2, 3, 3), VIEW), ((PAGE, None, (2, 5, (0, 0), ())), ((0, IMAGE),))),
    ),
    games.is_game_plan: (
        ((LATE,), LATE_PLAN),
        ((MIDDLE,), (
            (("close", "out", 1), ("show", "out"), ("show", "in")), (("close", "out", 0),),
            (("late", "in"), ("close", "in", 1)), (("late", "show"),), (), (("show", "in"),), (),
        )),
    ),
    plans.is_plan: (
        ((WORLD,), ()),
        ((WORLD,), (((("late", 0), ("own", ("show", 2, 3))), (("sent", 5), ("own", 5, 0, ("turn", 2, 4)))), ((("late", 0),), ()))),
    ),
    takings.is_taking: (((HALF_TAKEN,), TAKING_PLAN),),
    judge.is_paper_for: tuple(((claim,), ()) for claim in TRUE),
    judge.is_paper_against: tuple(((claim,), paper) for claim, paper in zip(FALSE, AGAINST)),
    worlds.is_choice: (
        ((WORLD,), ((("late", 0),), ())),
        (
            (WORLD,),
            (
                (("late", 1), ("own", ("close", SIGNED)), ("late", 0), ("own", ("show", 2, 3)), ("own", ("show", 0, 7))),
                (("sent", 0), ("sent", 5), ("sent", 0)),
            ),
        ),
        (
            (WORLD,),
            (
                (("own", ("close", (2, 0, (0, 0), ()))), ("late", 0), ("own", ("close", FIRST))),
                (
                    ("own", 2, 1, ("offer", (1, 1, (17, 20), ((0, 3, IMAGE, 9),)))),
                    ("own", 5, 0, ("agree", (2, 3, (0, 0), ()))),
                    ("own", 2, 0, ("turn", 0, 4)),
                    ("own", 5, 1, ("secret", 0, 9)),
                    ("own", 2, 1, ("pass", 2, IMAGE, (0,), (3,))),
                    ("own", 2, 1, ("agree", (1, BIG, (0, 31), tuple((0, 1, ("image", own), BIG) for own in range(9))))),
                ),
            ),
        ),
    ),
}

PLAIN = {
    sheets.is_person: plain.number,
    sheets.is_times: plain.times,
    sheets.is_channel: plain.channel,
    sheets.is_net: plain.net,
    sheets.is_image: plain.image,
    sheets.is_lock: plain.lock,
    sheets.is_sheet: plain.sheet,
    ledger.is_deed: plain.deed,
    ledger.is_ledger: plain.ledger,
    letters.is_letter: plain.letter,
    offers.is_change: plain.change,
    offers.is_book: plain.book,
    watch.is_watcher: plain.watcher,
    watch.is_too_little: plain.late_pair,
    routes.is_route: plain_rules.is_route,
    worlds.is_choice: plain_worlds.is_choice,
    nets.are_payments: plain_payments.are_payments,
    nets.is_bar: plain_payments.is_bar,
    dues.is_view: plain_dues.is_view,
    dues.is_case: plain_dues.is_case,
    games.is_game: plain_games.is_game,
    games.is_game_plan: lambda game, thing: plain_games.behind_plan(game, thing) is not None,
    plans.is_plan: lambda world, thing: plain_plans.played(world, thing) is not None,
    takings.is_taking: plain_plans.is_taking,
    judge.is_claim: plain_judge.claim,
    judge.is_paper_for: lambda claim, thing: plain_judge.verdict(claim, thing) == "for",
    judge.is_paper_against: plain_judge.against,
    shell.is_request: plain_shell.is_request,
}
# Of these () is one, too.
MAYBE_EMPTY = (nets.are_payments, plans.is_plan, judge.is_paper_for)


def judged():
    """Triples (function, arguments ahead of thing, right value)."""
    for function, values in RIGHT.items():
        for value in values:
            yield function, (), value
    for function, values in RIGHT_IN_NET.items():
        for value in values:
            yield function, (NET,), value
    for function, pairs in RIGHT_BEHIND.items():
        for ahead, value in pairs:
            yield function, ahead, value


class Things(unittest.TestCase):
    def check(self, expected, function, ahead, thing):
        told = function(*ahead, thing)
        self.assertIs(told, expected, (function.__name__, ahead, thing))

    def test_right_values(self):
        for function, ahead, value in judged():
            self.check(True, function, ahead, value)

    def test_by_name_and_with_lists_ahead(self):
        for function, ahead, value in judged():
            self.check(True, function, [listed(part) for part in ahead], value)
            names = list(inspect.signature(function).parameters)
            self.assertEqual(names[-1], "thing")
            self.assertIs(function(**dict(zip(names, ahead + (value,)))), True)
            self.assertIs(function(*ahead, **{"thing": value}), True)

    def test_values_of_other_kinds(self):
        for function, ahead, _ in judged():
            for thing in NO_TUPLE + NO_NUMBER + DEEP:
                wanted = function is sheets.is_person and thing.__class__ is int and thing >= 0
                wanted = wanted or function in MAYBE_EMPTY and thing.__class__ is tuple and thing == ()
                self.check(wanted, function, ahead, thing)

    def test_one_part_of_a_wrong_kind(self):
        for function, ahead, value in judged():
            for thing in wrong_kinds(value):
                self.check(False, function, ahead, thing)

    def test_bent_in_one_place(self):
        for function, ahead, value in judged():
            for thing in bends(value):
                self.check(PLAIN[function](*ahead, thing), function, ahead, thing)

    def test_things_are_not_changed(self):
        for function, ahead, value in judged():
            for thing in bends(value):
                kept = repr(thing)
                function(*ahead, thing)
                self.assertEqual(repr(thing), kept)

    def test_nested_a_hundred_levels(self):
        for function, ahead, value in judged():
            for kind in (tuple, list):
                self.check(False, function, ahead, nested(100, value, kind))

    def test_made_up_values(self):
        for seed in range(60):
            make, net, times, pages, sealed = made_up.world(seed)
            self.check(True, sheets.is_net, (), net)
            self.check(True, sheets.is_times, (), times)
            there = (None,) * len(net)
            for moment in range(1, 5):
                there = plain.behind(net, there, times, moment, made_up.row(make, net, pages), sealed)
                self.check(True, ledger.is_ledger, (net,), there)
            for page in pages[:2]:
                self.check(True, sheets.is_sheet, (net,), page)
                for thing in bends(page):
                    self.check(plain.sheet(net, thing), sheets.is_sheet, (net,), thing)
            if seed < 12:
                for thing in bends(there):
                    self.check(plain.ledger(net, thing), ledger.is_ledger, (net,), thing)


class Persons(unittest.TestCase):
    def test_wrong(self):
        for thing in NO_NUMBER + (1.0, b"1", {}):
            self.assertIs(sheets.is_person(thing), False)


class Channels(unittest.TestCase):
    def test_wrong(self):
        for thing in ((1, 1, 5, 5), (0, 1, -1, 5), (0, 1, 5, -1), (-1, 1, 5, 5), (0, -1, 5, 5), (0, 1, 5), (0, 1, 5, 5, 5)):
            self.assertIs(sheets.is_channel(thing), False)
            self.assertIs(sheets.is_net((thing,)), False)
            self.assertIs(sheets.is_net(NET + (thing,)), False)

    def test_nets(self):
        for thing in ((), NET[0], list(NET), (list(NET[0]),), (NET,)):
            self.assertIs(sheets.is_net(thing), False)


class Times(unittest.TestCase):
    def test_too_low(self):
        for thing in ((0, 1, 4), (1, 0, 4), (1, 1, -1), (1, 1), (1, 1, 1, 1), [1, 1, 1]):
            self.assertIs(sheets.is_times(thing), False)


class Locks(unittest.TestCase):
    def test_wrong(self):
        for thing in (
            (2, 10, IMAGE, 20),
            (-1, 10, IMAGE, 20),
            (0, 0, IMAGE, 20),
            (0, 10, IMAGE, -1),
            (False, 10, IMAGE, 20),
            (0, True, IMAGE, 20),
            (0, 10, 7, 20),
            (0, 10, ["image", 7], 20),
            (0, 10, ("image", -1), 20),
            (0, 10, ("image", True), 20),
            (0, 10, ("secret", 7), 20),
            (0, 10, ("image", 7, 8), 20),
            (0, 10, IMAGE),
            (0, 10, IMAGE, 20, 20),
        ):
            self.assertIs(sheets.is_lock(thing), False, thing)
            self.assertIs(sheets.is_sheet(NET, (0, 3, (70, 0), (thing,))), False, thing)


class Sheets(unittest.TestCase):
    def test_wrong(self):
        for thing in (
            put(PAGE, (0,), 1),
            put(PAGE, (0,), 3),
            put(PAGE, (0,), -1),
            put(PAGE, (0,), False),
            # Counted from the end it would fit.
            (-1, 5, (0, 0), ()),
            (-2, 5, (20, 20), ()),
            put(PAGE, (1,), -1),
            put(PAGE, (1,), 0),
            put(PAGE, (1,), True),
            put(PAGE, (2,), (30, 31)),
            put(PAGE, (2,), (29, 30)),
            put(PAGE, (2,), (61, -1)),
            put(PAGE, (2,), (30, 30, 0)),
            put(PAGE, (2,), (60,)),
            put(PAGE, (3,), list(LOCKS)),
            put(PAGE, (3,), LOCKS[:1]),
            put(PAGE, (3,), ()),
            put(PAGE, (3,), LOCKS[0]),
            (0, 3, (30, 30), (LOCKS[0], (1, 10, IMAGE, 15))),
            (0, 3, (30, 30), (LOCKS[0], LOCKS[0])),
            (0, 0, (40, 40), ()),
            (0, 0, (40, 30), ((0, 10, IMAGE, 20),)),
            (1, 0, (21, 19), ()),
        ):
            self.assertIs(sheets.is_sheet(NET, thing), False, thing)
            self.assertIs(ledger.is_deed(NET, ("close", thing)), False, thing)
            self.assertIs(ledger.is_ledger(NET, ((thing, 4, ()), None, None)), False, thing)

    def test_more_than_the_bounds(self):
        many = tuple((at % 2, 1, ("image", at), 600) for at in range(50))
        self.assertIs(sheets.is_sheet(NET, (0, 3, (15, 15), many)), True)
        self.assertIs(sheets.is_sheet(NET, (0, 3, (15, 15), many[:49] + many[:1])), False)
        self.assertIs(sheets.is_sheet(((9, 8, BIG, 1),) * 30, (29, BIG, (1, BIG), ())), True)


class Ledgers(unittest.TestCase):
    def test_deeds_wrong(self):
        for thing in (
            (),
            ("close",),
            ("show", 0),
            ("close", PAGE, 0),
            ("show", PAGE),
            ("close", 0, 7),
            ("show", 3, 7),
            ("show", -1, 7),
            ("show", 0, -1),
            ("show", True, 7),
            ("show", 0, False),
            ("show", 0, IMAGE),
            ["show", 0, 7],
            ("close", list(PAGE)),
            ("open", PAGE),
            (("show", 0, 7),),
            None,
        ):
            self.assertIs(ledger.is_deed(NET, thing), False, thing)

    def test_ledgers_wrong(self):
        for entry in (
            (PAGE, 4),
            (PAGE, 4, (), ()),
            (PAGE, -1, ()),
            (PAGE, True, ()),
            (PAGE, None, ()),
            (FIRST, 4, ()),
            (None, 4, ()),
            (PAGE, 4, None),
            (PAGE, 4, ((7, 3),)),
            (PAGE, 4, ((7, 5), (8, 4))),
            (PAGE, 4, ((7, 5), (7, 6))),
            (PAGE, 4, ((7, 5), (8, 5), (7, 5))),
            (PAGE, 4, ((-1, 5),)),
            (PAGE, 4, ((7, True),)),
            (PAGE, 4, ((7, 5, 0),)),
            (PAGE, 4, ((7,),)),
            (PAGE, 4, (7, 5)),
            (PAGE, 4, ([7, 5],)),
            (PAGE, 4, [(7, 5)]),
            [PAGE, 4, ()],
            (),
            0,
            False,
        ):
            self.assertIs(ledger.is_ledger(NET, (entry, None, None)), False, entry)
        for thing in ((), (None,), (None, None), (None,) * 4, [None] * 3, None, SHUT, (None, SHUT, None)):
            self.assertIs(ledger.is_ledger(NET, thing), False, thing)


if __name__ == "__main__":
    unittest.main()
