"""Payments: runs, their fates, tallies and breaches, beside a telling kept along while changes are made."""

import collections
import random
import unittest

import made_worlds
import plain
import plain_payments
from made_letters import wishes as made_wishes
from suredue import payments, worlds
from suredue.errors import Unfit
from suredue.ledger import lies
from suredue.sheets import first_sheet
from support import check_gives, check_raises

SEVEN, EIGHT = ("image", 7), ("image", 8)
LOCK, BACK = (0, 4, SEVEN, 20), (1, 2, SEVEN, 30)
FIRST = (0, 0, (9, 1), ())
# A LOCK comes and is paid; another one of its image comes, the other way, and is dropped; a third one is there last.
PAGES = (
    FIRST, (0, 1, (5, 1), (LOCK,)), (0, 2, (5, 1), (LOCK,)), (0, 3, (5, 5), ()), (0, 4, (5, 3), (BACK,)),
    (0, 5, (5, 5), ()), (0, 6, (2, 5), ((0, 3, SEVEN, 9),)), (0, 7, (2, 4), ((0, 3, SEVEN, 9), (1, 1, EIGHT, 9))),
)
NET = ((0, 1, 9, 1), (1, 2, 5, 5), (2, 3, 7, 0), (0, 2, 3, 3))


def pay(moment, amount, image=SEVEN, route=(0,)):
    return (moment, ("pay", route, amount, image, (40,) * len(route)))


class People(unittest.TestCase):
    def test_led_on(self):
        for payer, route, people in (
            (0, (0,), (0, 1)), (1, (0,), (1, 0)), (0, (0, 1, 2), (0, 1, 2, 3)), (3, (2, 3, 0), (3, 2, 0, 1)),
            # A PERSON may come twice, and a channel.
            (0, (0, 1, 3), (0, 1, 2, 0)), (0, (0, 0), (0, 1, 0)), (2, (1, 1, 2), (2, 1, 2, 3)),
        ):
            check_gives(self, payments.people_on, (NET, payer, route), people)

    def test_not_led_on(self):
        for payer, route in ((0, (1,)), (0, (2,)), (4, (0,)), (0, (0, 3)), (0, (0, 2)), (0, (4,)), (0, (0, 4)), (0, (-4,))):
            check_raises(self, payments.people_on, (NET, payer, route), Unfit())


class Runs(unittest.TestCase):
    def test_runs(self):
        check_gives(self, payments.runs, (PAGES, SEVEN), ((LOCK, 1, 3), (BACK, 4, 5), ((0, 3, SEVEN, 9), 6, None)))
        check_gives(self, payments.runs, (PAGES, EIGHT), (((1, 1, EIGHT, 9), 7, None),))
        check_gives(self, payments.runs, (PAGES, ("image", 9)), ())
        check_gives(self, payments.runs, (PAGES[:1], SEVEN), ())
        check_gives(self, payments.runs, (PAGES[:2], SEVEN), ((LOCK, 1, None),))

    def test_open_channel(self):
        check_gives(self, payments.fates, (PAGES, None, 0, SEVEN), ("paid", "void", "open"))
        # As long as the channel is open an end changes nothing.
        check_gives(self, payments.fates, (PAGES, None, 99, SEVEN), ("paid", "void", "open"))
        check_gives(self, payments.fates, (PAGES, None, 99, EIGHT), ("open",))
        check_gives(self, payments.fates, (PAGES, None, 99, ("image", 9)), ())

    def test_closed_with_each_of_the_sheets(self):
        late = ("void", "void", "void")
        for number, told in (
            (0, late), (1, ("open", "void", "void")), (2, ("open", "void", "void")), (3, ("paid", "void", "void")),
            (4, ("paid", "open", "void")), (5, ("paid", "void", "void")), (6, ("paid", "void", "open")),
            (7, ("paid", "void", "open")),
        ):
            check_gives(self, payments.fates, (PAGES, (PAGES[number], 3, ()), 5, SEVEN), told)

    def test_ends(self):
        """Open at the end of its LOCK, void one later; a secret shown at the end opens it, one later does not."""
        for number, end, at in ((1, 20, 0), (4, 30, 1), (6, 9, 2)):
            for moment, shown, told in (
                (end, (), "open"), (end + 1, (), "void"), (end, ((7, end),), "paid"), (end + 9, ((7, end),), "paid"),
                (end + 1, ((7, end + 1),), "void"), (end, ((8, end),), "open"), (end + 1, ((8, 4), (7, 4)), "paid"),
            ):
                found = payments.fates(PAGES, (PAGES[number], 3, shown), moment, SEVEN)
                self.assertEqual(found[at], told, (number, moment, shown))

    def test_tally(self):
        check_gives(self, payments.tally, (PAGES, None, 5, SEVEN), (4, 0))
        check_gives(self, payments.tally, (PAGES, (PAGES[4], 3, ((7, 30),)), 31, SEVEN), (4, 2))
        check_gives(self, payments.tally, (PAGES, (PAGES[7], 3, ((7, 9), (8, 9))), 31, SEVEN), (7, 0))
        check_gives(self, payments.tally, (PAGES, (PAGES[7], 3, ((7, 10), (8, 9))), 31, SEVEN), (4, 0))
        check_gives(self, payments.tally, (PAGES, (PAGES[7], 3, ((7, 9), (8, 9))), 31, EIGHT), (0, 1))
        check_gives(self, payments.tally, (PAGES, (PAGES[0], 3, ((7, 9),)), 5, SEVEN), (0, 0))


def drawn_story(make):
    """A Story of many changes of few images; LOCKS come again, either way."""
    story = plain_payments.Story((0, 0, (make.randint(2, 9), make.randint(2, 9)), ()))
    for _ in range(make.randint(0, 25)):
        image, side = ("image", make.choice((7, 7, 8))), make.randint(0, 1)
        lock = (side, make.randint(1, 3), image, make.randint(0, 12))
        story.make(side, make.choice((("pass",), ("add", lock), ("pay", image), ("drop", image))))
    return story


class BesideStories(unittest.TestCase):
    def test_runs_and_fates(self):
        seen = collections.Counter()
        for seed in range(300):
            make = random.Random(seed)
            story = drawn_story(make)
            pages, shown = tuple(story.sheets), ((7, make.randint(2, 12)),)
            places = [None] + [(page, 2, own) for page in pages for own in ((), shown)]
            for image in (SEVEN, EIGHT):
                found = story.runs(image)
                self.assertEqual(payments.runs(pages, image), found)
                seen["again"] += len(found) > 1
                seen["both ways"] += len({lock[0] for lock, _, _ in found}) == 2
                for place in places:
                    moment = make.randint(0, 14)
                    told = story.fates(place, moment, image)
                    self.assertEqual(payments.fates(pages, place, moment, image), told, (seed, place, moment))
                    self.assertEqual(payments.tally(pages, place, moment, image), story.tally(place, moment, image))
                    seen.update(("closed" if place else "open", own) for own in told)
        self.assertEqual(len(seen), 8)
        self.assertGreater(min(seen.values()), 40, seen)

    def test_forms(self):
        for seed in range(6):
            make = random.Random(seed)
            story = drawn_story(make)
            place = (make.choice(story.sheets), 2, ((7, 5),))
            for own in (None, place):
                check_gives(self, payments.runs, (tuple(story.sheets), SEVEN), story.runs(SEVEN))
                check_gives(self, payments.fates, (tuple(story.sheets), own, 6, SEVEN), story.fates(own, 6, SEVEN))
                check_gives(self, payments.tally, (tuple(story.sheets), own, 6, SEVEN), story.tally(own, 6, SEVEN))


class Wished(unittest.TestCase):
    def test_wished(self):
        wishes = (pay(1, 4), (3, ("leave", 0)), pay(9, 5), pay(1, 100, EIGHT), pay(1, 7, SEVEN, (0, 1)))
        check_gives(self, payments.wished, (wishes, SEVEN), 16)
        check_gives(self, payments.wished, (wishes, EIGHT), 100)
        check_gives(self, payments.wished, (wishes, ("image", 9)), 0)
        check_gives(self, payments.wished, ((), SEVEN), 0)
        for seed in range(40):
            make = random.Random(seed)
            wishes = made_wishes(make, NET, 8)
            for secret in range(10):
                own = [what[2] for _, what in wishes if what[0] == "pay" and what[3] == ("image", secret)]
                self.assertEqual(payments.wished(wishes, ("image", secret)), sum(own))

    def test_asked(self):
        check_gives(self, payments.asked, (((7, 6), (8, 1), (7, 4), (7, 5)), SEVEN), 4)
        check_gives(self, payments.asked, (((7, 0), (7, 4)), SEVEN), 0)
        check_gives(self, payments.asked, (((8, 1),), SEVEN), None)
        check_gives(self, payments.asked, ((), SEVEN), None)


class Breaches(unittest.TestCase):
    """0 wishes to pay 4 to 2, over 1; 2 asks for 3."""

    WISHES, ASKS = ((pay(1, 3), pay(2, 1)), (), (), ()), ((), (), ((7, 3), (7, 9)), ((8, 1),))

    def check(self, tallies, told, steady=(0, 1, 2), asks=ASKS):
        args = (steady, self.WISHES, asks, tallies, SEVEN)
        check_gives(self, payments.breaches, args, told)
        self.assertEqual(plain_payments.breaches(*args), told)

    def test_gives(self):
        for tallies, told in (
            (((0, 4), (4, 4), (4, 0), (0, 0)), ()), (((0, 0),) * 4, ()), (((1, 5), (4, 4), (4, 0), (0, 0)), ()),
            (((0, 5), (4, 4), (4, 0), (0, 0)), (("gives", 0),)), (((0, 4), (4, 5), (4, 0), (0, 0)), (("gives", 1),)),
            (((0, 5), (4, 5), (5, 6), (0, 9)), (("gives", 0), ("gives", 1), ("gives", 2))),
        ):
            self.check(tallies, told)
        # What the rest gives is no breach.
        self.check(((0, 5), (4, 5), (4, 0), (0, 9)), (("gives", 1),), (1, 2))
        self.check(((0, 5), (4, 5), (4, 0), (0, 9)), (), ())
        self.check(((0, 5), (4, 5), (4, 0), (0, 9)), (("gives", 3),), (3,))

    def test_asks(self):
        for tallies, told in (
            (((0, 4), (4, 4), (3, 0), (0, 0)), ()), (((0, 4), (4, 4), (2, 0), (0, 0)), (("asks", 2),)),
            (((0, 1), (1, 1), (0, 0), (0, 0)), (("asks", 2),)),
            # Nobody else that is steady gives anything.
            (((0, 0), (0, 0), (2, 0), (0, 4)), ()), (((0, 0), (9, 0), (2, 2), (0, 4)), ()),
            (((0, 5), (4, 4), (2, 3), (0, 0)), (("gives", 0), ("gives", 2), ("asks", 2))),
        ):
            self.check(tallies, told)

    def test_asks_alone(self):
        tallies = ((0, 4), (4, 4), (2, 0), (0, 0))
        self.check(tallies, (("asks", 2),), (1, 2))
        # 0 and 1 are not steady, or 2 is not, or another one asks, too, steady or not.
        self.check(tallies, (), (2, 3))
        self.check(tallies, (), (0, 1, 3))
        for asks in (((7, 9),), (), self.ASKS[2], ()), ((), (), self.ASKS[2], ((7, 1),)), ((), (), (), ()):
            self.check(tallies, (), (0, 1, 2), asks)
        self.check(tallies, (("asks", 2),), (0, 1, 2), ((), ((8, 5),), ((7, 3),), ()))

    def test_beside_a_plain_telling(self):
        seen = collections.Counter()
        for seed in range(2000):
            make = random.Random(seed)
            many = make.randint(1, 4)
            steady = tuple(sorted(make.sample(range(many), make.randint(0, many))))
            wishes = tuple(tuple(pay(1, make.randint(1, 2)) for _ in range(make.choice((0, 0, 1)))) for _ in range(many))
            asks = tuple(tuple((make.choice((7, 8)), make.randint(1, 3)) for _ in range(make.choice((0, 0, 1, 2))))
                         for _ in range(many))
            tallies = tuple((make.randint(0, 2), make.randint(0, 2)) for _ in range(many))
            told = plain_payments.breaches(steady, wishes, asks, tallies, SEVEN)
            self.assertEqual(payments.breaches(steady, wishes, asks, tallies, SEVEN), told)
            seen.update(word for word, _ in told)
        self.assertGreater(min(seen["gives"], seen["asks"]), 60, seen)


def story_of(pages):
    """The Story of sealed sheets: the changes between them are found by trying."""
    story = plain_payments.Story(pages[0])
    for page in pages[1:]:
        for side in (0, 1):
            for change in plain.all_changes(story.sheets[-1], page):
                if story.sheets[-1] != page and plain.changed(story.sheets[-1], side, change) == page:
                    story.make(side, change)
        assert story.sheets[-1] == page
    return story


class InWorlds(unittest.TestCase):
    def plain_tallies(self, world, image):
        net, steady = world[0], world[2]
        told = {person: [0, 0] for person in range(max(max(channel[:2]) for channel in net) + 1)}
        for at, channel in enumerate(net):
            if channel[0] in steady or channel[1] in steady:
                given = story_of(worlds.sealed_in(world, at)).tally(world[4][at], world[3], image)
                for side in (0, 1):
                    told[channel[side]][1] += given[side]
                    told[channel[1 - side]][0] += given[side]
        return tuple(tuple(told[person]) for person in sorted(told))

    def test_tallies_along_plays(self):
        """Also the guarantees: when all is settled there are no breaches, whatever the rest did."""
        seen = collections.Counter()
        for seed in range(500, 640):
            make, args = made_worlds.begun(seed, 1 if seed % 3 == 0 else None)
            along, _ = made_worlds.played(make, worlds.begun_world(*args))
            for secret in made_worlds.SECRETS:
                image = ("image", secret)
                for world in along[::16] + along[-1:]:
                    told = payments.tallies_of(world, image)
                    self.assertEqual(told, self.plain_tallies(world, image))
                seen["paid"] += any(gives for _, gives in told)
                seen["through"] += any(told[person][0] and told[person][1] for person in args[2])
                asking = [payments.asked(own, image) is not None for own in args[4]]
                seen["one asks"] += sum(asking) == 1 and asking.index(True) in args[2] and told != ((0, 0),) * len(told)
                self.assertEqual(payments.breaches(args[2], args[3], args[4], told, image), (), seed)
        self.assertGreater(min(seen["paid"], 5 * seen["one asks"], 20 * seen["through"]), 40, seen)

    def test_channels_of_the_rest_count_for_nothing(self):
        """Channel 2 is closed with a SHEET that two of the rest have made: it tells nothing of what they give."""
        world = worlds.begun_world(NET, (1, 1, 1), (0,), ((),) * 4, ((), (), (), ((7, 1),)), ((0, 0, 0),) * 4)
        page = (2, 5, (3, 0), ((0, 4, SEVEN, 30),))
        world = worlds.next_world(world, ((("own", ("close", page)), ("own", ("show", 2, 7))), ()))
        self.assertEqual(lies(world[4], 2), page)
        check_gives(self, payments.tallies_of, (world, SEVEN), ((0, 0),) * 4)

    def test_forms(self):
        world = made_worlds.busy()
        check_gives(self, payments.tallies_of, (world, SEVEN), ((0, 0),) * 6)
        # 0 lent to 1 by LOCK 7; it is closed with that SHEET, and 1 shows the secret in time.
        lent = worlds.sealed_in(world, 0)[-1]
        row = (("late", 0), ("own", ("close", lent)), ("own", ("show", 0, 7)))
        world = worlds.next_world(world, (row, ()))
        self.assertEqual((lies(world[4], 0), lies(world[4], 1)), (lent, first_sheet(world[0], 1)))
        check_gives(self, payments.tallies_of, (world, SEVEN), ((0, 5), (5, 0)) + ((0, 0),) * 4)
        check_gives(self, payments.tallies_of, (world, ("image", 4)), ((0, 0),) * 6)


if __name__ == "__main__":
    unittest.main()
