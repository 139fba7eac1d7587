"""Channels, locks and sheets: each function, in every way in which it can be called."""

import unittest

import made_up
from suredue import sheets
from suredue.errors import NoPlace
from support import check_gives, check_raises

NET = ((0, 1, 50, 30), (1, 2, 20, 20), (4, 1, 0, 0))
PAGE = (0, 3, (30, 30), ((0, 10, ("image", 7), 20), (1, 10, ("image", 8), 15)))
LOCK = PAGE[3][0]
NO_PLACES = (3, 4, 100, -1, -2, -3, -4)


class Looks(unittest.TestCase):
    def test_look_at(self):
        for moment, look in ((0, 0), (1, 2), (2, 2), (5, 6), (6, 6), (499, 500)):
            check_gives(self, sheets.look_at, ((3, 2, 4), moment), look)
        check_gives(self, sheets.look_at, ((3, 1, 4), 7), 7)
        check_gives(self, sheets.look_at, ((1, 10, 0), 11), 20)

    def test_look_by(self):
        for moment, look in ((0, 0), (1, 0), (2, 2), (5, 4), (-1, None), (-2, None), (-500, None)):
            check_gives(self, sheets.look_by, ((3, 2, 4), moment), look)
        check_gives(self, sheets.look_by, ((3, 1, 4), 7), 7)
        check_gives(self, sheets.look_by, ((1, 10, 0), 19), 10)

    def test_by_going_through(self):
        for look in range(1, 11):
            looks = range(0, 100, look)
            for moment in range(40):
                times = (1, look, 0)
                self.assertEqual(sheets.look_at(times, moment), min(own for own in looks if own >= moment))
                self.assertEqual(sheets.look_by(times, moment), max(own for own in looks if own <= moment))


class Places(unittest.TestCase):
    def test_person_of(self):
        told = [[sheets.person_of(NET, channel, side) for side in (0, 1)] for channel in (0, 1, 2)]
        self.assertEqual(told, [[0, 1], [1, 2], [4, 1]])
        check_gives(self, sheets.person_of, (NET, 1, 1), 2)

    def test_side_of(self):
        told = [[sheets.side_of(NET, channel, person) for person in range(6)] for channel in (0, 1, 2)]
        nobody = [None] * 6
        self.assertEqual(told, [[0, 1] + nobody[2:], [None, 0, 1, None, None, None], [None, 1, None, None, 0, None]])
        check_gives(self, sheets.side_of, (NET, 2, 4), 0)
        check_gives(self, sheets.side_of, (NET, 2, 0), None)

    def test_channels_of(self):
        # 50, 30, 20 are sums in NET, no PERSONS.
        for person, channels in ((0, (0,)), (1, (0, 1, 2)), (2, (1,)), (3, ()), (4, (2,)), (50, ()), (20, ())):
            check_gives(self, sheets.channels_of, (NET, person), channels)

    def test_first_sheet(self):
        check_gives(self, sheets.first_sheet, (NET, 0), (0, 0, (50, 30), ()))
        check_gives(self, sheets.first_sheet, (NET, 2), (2, 0, (0, 0), ()))

    def test_no_place(self):
        for channel in NO_PLACES:
            check_raises(self, sheets.person_of, (NET, channel, 1), NoPlace(channel))
            check_raises(self, sheets.side_of, (NET, channel, 1), NoPlace(channel))
            check_raises(self, sheets.first_sheet, (NET, channel), NoPlace(channel))


class Pages(unittest.TestCase):
    def test_total(self):
        check_gives(self, sheets.total, (PAGE,), 80)
        check_gives(self, sheets.total, ((1, 0, (20, 20), ()),), 40)

    def test_image_of(self):
        check_gives(self, sheets.image_of, (0,), ("image", 0))
        check_gives(self, sheets.image_of, (7,), ("image", 7))

    def test_lock_of(self):
        check_gives(self, sheets.lock_of, (PAGE, ("image", 7)), LOCK)
        check_gives(self, sheets.lock_of, (PAGE, ("image", 8)), PAGE[3][1])
        check_gives(self, sheets.lock_of, (PAGE, ("image", 9)), None)
        check_gives(self, sheets.lock_of, ((1, 0, (20, 20), ()), ("image", 7)), None)

    def test_is_opened(self):
        for shown, told in (
            ((), False),
            (((7, 20),), True),
            (((7, 0),), True),
            (((7, 21),), False),
            (((8, 3),), False),
            (((20, 7),), False),
            (((8, 3), (7, 20)), True),
            (((7, 25), (7, 20)), True),
        ):
            check_gives(self, sheets.is_opened, (LOCK, shown), told)

    def test_has(self):
        for shown, worths in (
            ((), (40, 40)),
            (((7, 20),), (30, 50)),
            (((7, 21),), (40, 40)),
            (((8, 15),), (50, 30)),
            (((8, 16), (7, 21)), (40, 40)),
            (((7, 1), (8, 1)), (40, 40)),
            (((9, 1),), (40, 40)),
        ):
            for side in (0, 1):
                check_gives(self, sheets.has, (PAGE, shown, side), worths[side])

    def test_more_than_the_bounds(self):
        many = tuple((at % 2, 10 ** 9, ("image", at), 1000) for at in range(20))
        page = (0, 3, (10 ** 20, 0), many)
        check_gives(self, sheets.total, (page,), 10 ** 20 + 20 * 10 ** 9)
        check_gives(self, sheets.has, (page, ((1, 1000),), 0), 10 ** 20 + 11 * 10 ** 9)
        check_gives(self, sheets.look_at, ((1, 1000, 0), 1001), 2000)


def some_shown(make):
    secrets = make.sample((1, 2, 3, 4), make.randint(0, 4))
    return tuple((secret, make.randint(1, 10)) for secret in secrets)


class Guarantees(unittest.TestCase):
    def test_whatever_is_shown_nothing_gets_lost(self):
        for seed in range(300):
            make, net, _, pages, _ = made_up.world(seed)
            for page in pages:
                for _ in range(4):
                    shown = some_shown(make)
                    whole = sheets.has(page, shown, 0) + sheets.has(page, shown, 1)
                    self.assertEqual(whole, net[page[0]][2] + net[page[0]][3])
                    self.assertEqual(whole, sheets.total(page))

    def test_a_lock_more_takes_nothing_from_whom_it_pays(self):
        for seed in range(300):
            make, _, _, pages, _ = made_up.world(seed)
            for page in pages:
                shown = some_shown(make)
                for lock in page[3]:
                    if not sheets.is_opened(lock, shown):
                        more, taker = shown + ((lock[2][1], lock[3]),), 1 - lock[0]
                        gain = sheets.has(page, more, taker) - sheets.has(page, shown, taker)
                        self.assertEqual(gain, lock[1])
                        self.assertEqual(sheets.has(page, shown, lock[0]) - sheets.has(page, more, lock[0]), lock[1])

    def test_channels_of_and_side_of_agree(self):
        for seed in range(100):
            _, net, _, _, _ = made_up.world(seed)
            for person in range(5):
                own = [channel for channel in range(len(net)) if sheets.side_of(net, channel, person) is not None]
                self.assertEqual(sheets.channels_of(net, person), tuple(own))
                for channel in own:
                    side = sheets.side_of(net, channel, person)
                    self.assertEqual(sheets.person_of(net, channel, side), person)


if __name__ == "__main__":
    unittest.main()
