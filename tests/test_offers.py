"""Offers: each function and its edges, and two books whose letters are lost, held, doubled and out of order."""

import random
import unittest

import made_up
import plain
from suredue import offers
from suredue.errors import CanNot, NoPlace, Unfit
from suredue.sheets import first_sheet, has, is_sheet
from support import FORMS, check_gives, check_raises

NET = ((0, 1, 10, 5), (1, 2, 8, 0))
IN, OUT, NEW = (1, 3, ("image", 7), 40), (0, 4, ("image", 8), 30), (0, 2, ("image", 9), 20)
PAGE = (0, 3, (2, 6), (IN, OUT))
FULL = (0, 7, (6, 1), tuple((0, 1, ("image", at), 9) for at in range(8)))
PASS = ("pass",)


def book(side, newest=PAGE, offered=None, asked=False, wanted=()):
    return (newest[0], side, newest, offered, asked, wanted)


class Changes(unittest.TestCase):
    def test_changed(self):
        for side, change, expected in (
            (0, PASS, (0, 4, (2, 6), (IN, OUT))),
            (1, PASS, (0, 4, (2, 6), (IN, OUT))),
            (0, ("add", NEW), (0, 4, (0, 6), (IN, OUT, NEW))),
            (1, ("add", (1, 6, ("image", 9), 0)), (0, 4, (2, 0), (IN, OUT, (1, 6, ("image", 9), 0)))),
            (0, ("pay", ("image", 8)), (0, 4, (2, 10), (IN,))),
            (1, ("pay", ("image", 7)), (0, 4, (5, 6), (OUT,))),
            (0, ("drop", ("image", 7)), (0, 4, (2, 9), (OUT,))),
            (1, ("drop", ("image", 8)), (0, 4, (6, 6), (IN,))),
        ):
            check_gives(self, offers.changed, (PAGE, side, change), expected)
            check_gives(self, offers.change_of, (PAGE, side, expected), change)

    def test_changes_that_can_not_be_done(self):
        for side, change in (
            (1, ("add", NEW)),
            (0, ("add", (0, 3, ("image", 9), 20))),
            (0, ("add", (0, 1, ("image", 7), 20))),
            (0, ("add", (0, 1, ("image", 8), 30))),
            (1, ("add", (1, 7, ("image", 9), 20))),
            (0, ("pay", ("image", 7))),
            (1, ("pay", ("image", 8))),
            (0, ("drop", ("image", 8))),
            (1, ("drop", ("image", 7))),
            (0, ("pay", ("image", 9))),
            (1, ("drop", ("image", 9))),
        ):
            check_raises(self, offers.changed, (PAGE, side, change), Unfit())

    def test_eight_locks(self):
        check_raises(self, offers.changed, (FULL, 0, ("add", (0, 1, ("image", 9), 9))), Unfit())
        check_raises(self, offers.changed, (FULL, 1, ("add", (1, 1, ("image", 9), 9))), Unfit())
        seven = FULL[:3] + (FULL[3][:7],)
        behind = (0, 8, (5, 1), FULL[3][:7] + ((0, 1, ("image", 9), 9),))
        check_gives(self, offers.changed, (seven, 0, ("add", (0, 1, ("image", 9), 9))), behind)
        check_gives(self, offers.changed, (FULL, 0, PASS), (0, 8) + FULL[2:])

    def test_no_change_leads_there(self):
        for side, other in (
            (0, PAGE),
            (0, (0, 5) + PAGE[2:]),
            (0, (0, 2) + PAGE[2:]),
            (0, (0, 4, (3, 5), (IN, OUT))),
            (0, (0, 4, (2, 6), (OUT, IN))),
            (1, (0, 4, (0, 6), (IN, OUT, NEW))),
            (0, (0, 4, (0, 6), (NEW, IN, OUT))),
            (1, (0, 4, (2, 10), (IN,))),
            (0, (0, 4, (6, 6), (IN,))),
            (0, (0, 4, (6, 9), ())),
            (0, (0, 4, (1, 6), (IN, (0, 5, ("image", 8), 30)))),
            (0, (0, 4, (2, 6), (IN, (0, 4, ("image", 8), 31)))),
        ):
            check_raises(self, offers.change_of, (PAGE, side, other), CanNot())
        check_raises(self, offers.change_of, (FULL, 0, (0, 8, (5, 1), FULL[3] + (NEW[:1] + (1,) + NEW[2:],))), CanNot())

    def test_beside_plain(self):
        for seed in range(300):
            make, net, _, pages, _ = made_up.world(seed)
            page = make.choice(pages)
            form = FORMS[seed % len(FORMS)]
            for side in (0, 1):
                lock = (side, make.randint(1, 4), ("image", make.randint(1, 5)), 7)
                for change in [PASS, ("add", lock)] + [(what, ("image", own)) for what in ("pay", "drop") for own in range(5)]:
                    expected = plain.changed(page, side, change)
                    if expected is None:
                        self.assertRaises(Unfit, offers.changed, form(page), side, form(change))
                    else:
                        self.assertEqual(offers.changed(form(page), side, form(change)), expected)
                        self.assertTrue(is_sheet(net, expected))
                        self.assertEqual(offers.change_of(form(page), side, form(expected)), change)

    def test_each_change_only_gives(self):
        for seed in range(200):
            make, net, _, pages, _ = made_up.world(seed)
            page, shown = make.choice(pages), tuple((own, 0) for own in (1, 2, 3) if make.random() < 0.5)
            for side in (0, 1):
                changes = [("pay", ("image", own)) for own in (1, 2, 3)] + [("drop", ("image", own)) for own in (1, 2, 3)]
                for change in changes + [("add", (side, 1, ("image", 4), 9))]:
                    behind = plain.changed(page, side, change)
                    if behind is not None:
                        told = offers.changed(page, side, change)
                        self.assertGreaterEqual(has(told, shown, 1 - side), has(page, shown, 1 - side))


class Books(unittest.TestCase):
    def test_begun_book(self):
        check_gives(self, offers.begun_book, (NET, 0, 1), (0, 1, (0, 0, (10, 5), ()), None, False, ()))
        check_gives(self, offers.begun_book, (NET, 1, 0), (1, 0, (1, 0, (8, 0), ()), None, False, ()))
        for channel in (2, 3, -1, -2):
            check_raises(self, offers.begun_book, (NET, channel, 0), NoPlace(channel))

    def test_is_book(self):
        check_gives(self, offers.is_book, (NET, book(0)), True)
        check_gives(self, offers.is_book, (NET, book(1, asked=True)), False)
        check_gives(self, offers.is_book, (NET, book(0, asked=True)), True)
        check_gives(self, offers.is_book, (NET, book(0, offered=offers.changed(PAGE, 0, PASS), asked=True)), False)
        check_gives(self, offers.is_book, (NET, book(1, offered=offers.changed(PAGE, 1, PASS))), False)
        check_gives(self, offers.is_book, (NET, book(0, offered=offers.changed(PAGE, 0, ("pay", OUT[2])))), True)
        check_gives(self, offers.is_book, (NET, book(0, offered=offers.changed(PAGE, 1, ("pay", IN[2])))), False)

    def test_in_turn(self):
        for side, number, told in ((0, 0, False), (1, 0, True), (0, 1, True), (1, 1, False), (0, 8, False), (1, 8, True)):
            check_gives(self, offers.in_turn, (book(side, (0, number, (10, 5), ())),), told)

    def test_wanting(self):
        check_gives(self, offers.wanting, (book(0), PASS), book(0, wanted=(PASS,)))
        full = book(0, wanted=(("drop", IN[2]), PASS))
        check_gives(self, offers.wanting, (full, ("add", NEW)), book(0, wanted=(("drop", IN[2]), PASS, ("add", NEW))))
        check_gives(self, offers.wanting_just, (full, (("add", NEW), PASS)), book(0, wanted=(("add", NEW), PASS)))
        check_gives(self, offers.wanting_just, (full, ()), book(0))

    def test_exposed(self):
        check_gives(self, offers.exposed, (book(0),), (PAGE,))
        check_gives(self, offers.exposed, (book(0, offered=(0, 4) + PAGE[2:]),), (PAGE, (0, 4) + PAGE[2:]))

    def test_go_together(self):
        after = offers.changed(PAGE, 0, PASS)
        other = offers.changed(PAGE, 0, ("pay", OUT[2]))
        for one, far, told in (
            (book(0), book(1), True),
            (book(1), book(0), True),
            (book(0), book(0), False),
            (book(0), book(1, (1, 0, (8, 0), ())), False),
            (book(0, offered=after), book(1), True),
            (book(0, offered=after), book(1, after), True),
            (book(0, offered=after), book(1, other), False),
            (book(0), book(1, after), False),
            (book(0, after), book(1, PAGE), False),
        ):
            check_gives(self, offers.go_together, (one, far), told)
            check_gives(self, offers.go_together, (far, one), told)
        # Of one number in two channels that have the same.
        self.assertFalse(offers.go_together((0, 0, PAGE, None, False, ()), (1, 1, PAGE, None, False, ())))


class Taken(unittest.TestCase):
    def check(self, before, letter, behind, *answer):
        check_gives(self, offers.taken, (before, letter), (behind, answer))

    def test_offers_of_the_other_side(self):
        for change in (PASS, ("pay", OUT[2]), ("drop", IN[2]), ("add", NEW)):
            after = offers.changed(PAGE, 0, change)
            wanted = (("pay", IN[2]), PASS)
            self.check(book(1, wanted=wanted), ("offer", after), book(1, after, wanted=wanted), ("agree", after))
            # Side 0 is in turn itself.
            self.check(book(0), ("offer", after), book(0))

    def test_offers_that_do_not_come_of_the_newest(self):
        for page in (
            (0, 5) + PAGE[2:],
            (0, 2) + PAGE[2:],
            (0, 3, (3, 5), PAGE[3]),
            (0, 4, (3, 5), PAGE[3]),
            (0, 4, (1, 7), PAGE[3]),
            offers.changed(PAGE, 1, ("pay", IN[2])),
            offers.changed(PAGE, 1, ("drop", OUT[2])),
            (1, 4, (4, 4), ()),
        ):
            self.check(book(1), ("offer", page), book(1))

    def test_the_newest_is_agreed_on_again(self):
        for side in (0, 1):
            self.check(book(side), ("offer", PAGE), book(side), ("agree", PAGE))
        full = book(0, offered=(0, 4) + PAGE[2:], wanted=(PASS,))
        self.check(full, ("offer", PAGE), full, ("agree", PAGE))

    def test_agreed(self):
        after = (0, 4) + PAGE[2:]
        self.check(book(0, offered=after, wanted=(PASS,)), ("agree", after), book(0, after, wanted=(PASS,)))
        self.check(book(0, offered=after), ("agree", PAGE), book(0, offered=after))
        self.check(book(0, offered=after), ("agree", (0, 4, (3, 5), PAGE[3])), book(0, offered=after))
        for side in (0, 1):
            self.check(book(side), ("agree", after), book(side))
            self.check(book(side), ("agree", PAGE), book(side))

    def test_turns(self):
        self.check(book(0), ("turn", 0, 3), book(0, asked=True))
        self.check(book(0, asked=True, wanted=(PASS,)), ("turn", 0, 3), book(0, asked=True, wanted=(PASS,)))
        for letter in (("turn", 0, 2), ("turn", 0, 4), ("turn", 1, 3)):
            self.check(book(0), letter, book(0))
        self.check(book(1), ("turn", 0, 3), book(1))
        offering = book(0, offered=(0, 4) + PAGE[2:])
        self.check(offering, ("turn", 0, 3), offering)

    def test_with_a_new_sheet_nothing_is_asked(self):
        # Nobody can be asked and take an offer, but what the books of others make of it stays a book.
        after = (0, 4) + PAGE[2:]
        told, _ = offers.taken(book(1), ("offer", after))
        self.assertEqual(told[3:5], (None, False))

    def test_other_letters(self):
        for letter in (("secret", 0, 7), ("pass", 0, ("image", 7), (1,), (9,)), ("offer", (1, 0, (8, 0), ()))):
            for side in (0, 1):
                self.check(book(side, wanted=(PASS,)), letter, book(side, wanted=(PASS,)))


class Look(unittest.TestCase):
    def check(self, before, behind, *sent):
        check_gives(self, offers.book_at_look, (before,), (behind, sent))

    def test_what_is_offered_is_sent_again(self):
        for wanted in ((), (PASS, ("drop", IN[2]))):
            full = book(0, offered=(0, 4) + PAGE[2:], wanted=wanted)
            self.check(full, full, ("offer", (0, 4) + PAGE[2:]))

    def test_first_that_fits(self):
        much, drop = ("add", (0, 3, ("image", 9), 20)), ("drop", IN[2])
        after = offers.changed(PAGE, 0, drop)
        self.check(book(0, wanted=(drop,)), book(0, offered=after), ("offer", after))
        self.check(book(0, wanted=(drop, PASS)), book(0, offered=after, wanted=(PASS,)), ("offer", after))
        self.check(book(0, wanted=(much, drop, much)), book(0, offered=after, wanted=(much,)), ("offer", after))
        self.check(book(0, asked=True, wanted=(drop, PASS)), book(0, offered=after, wanted=(PASS,)), ("offer", after))

    def test_nothing_fits(self):
        much, own = ("add", (0, 3, ("image", 9), 20)), ("drop", OUT[2])
        self.check(book(0, wanted=(much, own)), book(0))
        after = (0, 4) + PAGE[2:]
        self.check(book(0, asked=True, wanted=(much, own)), book(0, offered=after), ("offer", after))
        self.check(book(0, asked=True), book(0, offered=after), ("offer", after))
        self.check(book(0), book(0))

    def test_not_in_turn(self):
        self.check(book(1), book(1))
        for wanted in ((PASS,), (("add", NEW), PASS)):
            self.check(book(1, wanted=wanted), book(1, wanted=wanted), ("turn", 0, 3))


class Post:
    """Letters between the two sides of a channel, which a made-up rest carries."""

    def __init__(self, make):
        self.make, self.letters = make, ([], [])

    def send(self, side, letters):
        """Letters that side sends to the other one."""
        self.letters[1 - side].extend(letters)

    def lossy(self, side):
        """Some of the letters ever sent to side, doubled and out of order; none is forgotten."""
        held = self.letters[side][-4:] if self.make.random() < 0.7 else self.letters[side]
        return [self.make.choice(held) for _ in range(self.make.randint(0, 3))] if held else []

    def newest(self, side, since):
        return self.letters[side][since:]


class TwoBooks(unittest.TestCase):
    def want(self, make, own, side, image):
        """A change that a person may want, whether it fits or not."""
        lock = (side, make.randint(1, 5), ("image", image), 40)
        images = [lock[2] for lock in own[2][3]] + [("image", image)]
        return make.choice((("add", lock), ("add", lock), ("pay", make.choice(images)), ("drop", make.choice(images)), PASS))

    def check_books(self, net, books, sealed):
        for own in books:
            self.assertTrue(offers.is_book(net, own))
            for page in offers.exposed(own):
                self.assertTrue(is_sheet(net, page))
                # Never two unlike ones of one number.
                self.assertEqual(sealed[own[1]].setdefault(page[1], page), page)
        self.assertTrue(offers.go_together(*books), books)
        self.assertTrue(offers.go_together(*books[::-1]))

    def look(self, net, books, post, sealed, letters):
        """A look of both sides, with the letters that come to each."""
        for side in (0, 1):
            for letter in letters[side]:
                before = books[side]
                books[side], answer = offers.taken(before, letter)
                self.check_books(net, books, sealed)
                post.send(side, answer)
                if books[side][2] != before[2]:
                    self.check_taken(before, books[side][2])
            books[side], sent = offers.book_at_look(books[side])
            post.send(side, sent)
            self.check_books(net, books, sealed)

    def check_taken(self, before, page):
        """A new newest sheet comes of the elder one by a change of who was in turn, and takes nothing from the other."""
        offering = (before[2][1] + 1) % 2
        self.assertIsNotNone(offers.change_of(before[2], offering, page))
        for shown in ((), ((1, 0), (2, 0), (3, 0)), tuple((own, 0) for own in range(30))):
            self.assertGreaterEqual(has(page, shown, 1 - offering), has(before[2], shown, 1 - offering))

    def bad_weather(self, seed, looks=30):
        """The books behind a while of letters lost, held and doubled."""
        make = random.Random(seed)
        net = ((0, 1, make.randint(0, 9), make.randint(0, 9)),)
        books, post, sealed = [offers.begun_book(net, 0, side) for side in (0, 1)], Post(make), ({}, {})
        for image in range(looks):
            for side in (0, 1):
                if make.random() < 0.5:
                    books[side] = offers.wanting(books[side], self.want(make, books[side], side, image))
            self.look(net, books, post, sealed, [post.lossy(0), post.lossy(1)])
        return make, net, books, post, sealed

    def test_bad_weather(self):
        grown = 0
        for seed in range(150):
            _, _, books, _, sealed = self.bad_weather(seed)
            grown += books[0][2][1] > 4
            both = set(sealed[0].items()) & set(sealed[1].items())
            self.assertTrue({number for number, _ in both} >= set(range(min(own[2][1] for own in books))))
        self.assertGreater(grown, 75)

    def test_the_wanted_change_is_there_eight_looks_later(self):
        for seed in range(300):
            make, net, books, post, sealed = self.bad_weather(seed, seed % 13)
            for side in (0, 1):
                books[side] = offers.wanting_just(books[side], ())
            who, image = make.randrange(2), ("image", 999)
            # A lock of 1 fits as long as nobody else adds: the other one's open offer only gives.
            room = all(page[2][who] > 0 and len(page[3]) < 8 for own in books for page in offers.exposed(own))
            change = ("add", (who, 1, image, 40)) if room else PASS
            since = [len(post.letters[side]) for side in (0, 1)]
            books[who] = offers.wanting(books[who], change)
            number = max(own[2][1] for own in books)
            # All letters come by the next look, elder ones maybe again.
            for _ in range(8):
                letters = [post.lossy(side) + post.newest(side, since[side]) for side in (0, 1)]
                since = [len(post.letters[side]) for side in (0, 1)]
                self.look(net, books, post, sealed, letters)
            for own in books:
                self.assertGreater(own[2][1], number)
                if room:
                    self.assertIn(image, [lock[2] for lock in own[2][3]], seed)

    def test_calm_weather(self):
        net = ((0, 1, 10, 5),)
        books, post, sealed = [offers.begun_book(net, 0, side) for side in (0, 1)], Post(None), ({}, {})
        locks = [(side, 2, ("image", side), 40) for side in (0, 1)]
        for side in (0, 1):
            books[side] = offers.wanting(books[side], ("add", locks[side]))
        for _ in range(8):
            letters = [post.letters[side][:] for side in (0, 1)]
            for side in (0, 1):
                post.letters[side].clear()
            self.look(net, books, post, sealed, letters)
        for own in books:
            self.assertEqual(sorted(own[2][3]), locks)
            self.assertEqual(own[2][2], (8, 3))
        self.assertEqual(sealed[0][0], first_sheet(net, 0))


if __name__ == "__main__":
    unittest.main()
