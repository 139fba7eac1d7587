"""Minds: each step of a look at its edges, and made-up looks beside a second telling of the rules."""

import collections
import unittest

import made_minds
import plain_minds
from suredue import minds
from suredue.offers import changed
from support import check_gives, outcome, shape

# Looks are 0, 3, 6 ..; an end 20 is closed for by 15, shown for by 18; an end 23 by 18 and 21.
TIMES = (2, 3, 4)
ME = 1
NET = ((0, 1, 10, 5), (1, 2, 10, 5), (3, 1, 6, 6), (0, 2, 4, 4))
SIDES = {0: 1, 1: 0, 2: 1}
BARE = (None,) * 4
SEVEN, EIGHT, NINE = ("image", 7), ("image", 8), ("image", 9)
FIELDS = ("net", "times", "person", "cares", "books", "secrets", "asks", "onward", "pairs", "wishes", "left")


def first(channel):
    return (channel, 0, NET[channel][2:], ())


def inward(end, number=1, image=SEVEN):
    """A sheet of channel 0 by which 0 pays ME 4; with an odd number 0 is in turn, with an even one ME."""
    return (0, number, (6, 5), ((0, 4, image, end),))


def outward(end, number=1, image=SEVEN):
    """A sheet of channel 1 by which ME pays 2 the sum of 4; with an odd number ME is in turn."""
    return (1, number, (6, 5), ((0, 4, image, end),))


def book(newest, offered=None, asked=False, wanted=()):
    return (newest[0], SIDES[newest[0]], newest, offered, asked, wanted)


def books(*told):
    """The books of all channels of ME: those told, and such as have just begun."""
    found = {channel: book(first(channel)) for channel in SIDES}
    found.update({own[0]: own for own in told})
    return tuple(found[channel] for channel in sorted(found))


def mind(**parts):
    whole = dict.fromkeys(FIELDS, ())
    whole.update({"net": NET, "times": TIMES, "person": ME, "cares": (0, 0, 0), "books": books()})
    whole.update(parts)
    return tuple(whole[name] for name in FIELDS)


def shut(channel, page, since=14, shown=()):
    """The ledger with this channel closed."""
    return BARE[:channel] + ((page, since, shown),) + BARE[channel + 1:]


class Looks(unittest.TestCase):
    def check(self, given, moment=15, ledger=BARE, box=(), deeds=(), letters=(), **behind):
        """Behind the look of a mind it is as told, and all that is not told is as it was."""
        fresh = mind(**{**given, **behind})
        check_gives(self, minds.at_look, (mind(**given), moment, ledger, box), (fresh, deeds, letters))


class Begun(unittest.TestCase):
    def test_begun_mind(self):
        wishes, asks = ((2, ("leave", 0)), (1, ("pay", (1,), 4, SEVEN, (20,)))), ((8, 1), (7, 4))
        told = (NET, TIMES, ME, (1, 2, 3), books(), (), asks, (), (), wishes, ())
        check_gives(self, minds.begun_mind, (NET, TIMES, ME, wishes, asks, (1, 2, 3)), told)
        told = (NET, TIMES, 3, (0, 0, 0), ((2, 0, first(2), None, False, ()),), (), (), (), (), (), ())
        check_gives(self, minds.begun_mind, (NET, TIMES, 3, (), (), (0, 0, 0)), told)
        told = (NET, TIMES, 5, (0, 0, 0), (), (), (), (), (), (), ())
        check_gives(self, minds.begun_mind, (NET, TIMES, 5, (), (), (0, 0, 0)), told)

    def test_what_is_told_of_a_mind(self):
        bare = mind()
        check_gives(self, minds.held_by, (bare,), (first(0), first(1), first(2), None))
        check_gives(self, minds.given_by, (bare,), (first(0), first(1), first(2)))
        check_gives(self, minds.known_by, (bare,), ())
        page = inward(20, 2)
        offered = changed(page, 1, ("pass",))
        full = mind(books=books(book(page, offered), book(outward(9))), secrets=(2, 7), asks=((9, 1),))
        check_gives(self, minds.held_by, (full,), (page, outward(9), first(2), None))
        check_gives(self, minds.given_by, (full,), (page, offered, outward(9), first(2)))
        check_gives(self, minds.known_by, (full,), (2, 7))


class Reading(Looks):
    """Step (a)."""

    def test_what_is_shown_is_known(self):
        self.check({}, ledger=shut(3, first(3), shown=((9, 14), (8, 15))), secrets=(8, 9))
        self.check({"secrets": (1, 8)}, ledger=shut(0, first(0), shown=((8, 14), (3, 14))), secrets=(1, 3, 8))

    def test_secrets(self):
        for sender, channel in ((0, 0), (2, 0), (5, 3), (3, 9)):
            self.check({"secrets": (9,)}, box=((sender, ("secret", channel, 7)),), secrets=(7, 9))
        self.check({"secrets": (9,)}, box=((0, ("secret", 0, 9)),) * 2)

    def test_passes(self):
        told = (0, SEVEN, (1,), (14,))
        letter, other = ("pass",) + told, ("pass", 0, SEVEN, (2,), (13,))
        self.check({}, box=((0, letter),), onward=(told,))
        box = ((0, letter), (0, other), (0, ("pass", 0, EIGHT, (), ())))
        self.check({}, box=box, onward=(told, (0, EIGHT, (), ())))
        self.check({"onward": (told,)}, box=((0, other),))
        # Of one image, but in another channel.
        box = ((2, ("pass", 1, SEVEN, (0,), (9,))),)
        self.check({"onward": (told,)}, box=box, onward=(told, (1, SEVEN, (0,), (9,))))
        for sender, letter in ((2, letter), (1, letter), (0, ("pass", 1) + told[1:]), (0, ("pass", 3) + told[1:])):
            self.check({}, box=((sender, letter),))
        # The channel need not be free.
        self.check({"left": (0,)}, box=((0, ("pass",) + told),), onward=(told,))
        self.check({}, ledger=shut(0, first(0)), box=((0, ("pass",) + told),), onward=(told,))

    def test_offers(self):
        # Number 0: ME, at side 1, is in turn in channel 0, and 2 in channel 1.
        page = (1, 1, (10, 2), ((1, 3, NINE, 60),))
        held = books(book(page))
        self.check({}, box=((2, ("offer", page)),), books=held, letters=((2, ("agree", page)),))
        self.check({"books": held}, box=((2, ("offer", page)),) * 2, letters=((2, ("agree", page)),) * 2)
        for sender in (0, 1, 3):
            self.check({}, box=((sender, ("offer", page)),))
        self.check({"left": (1,)}, box=((2, ("offer", page)),))
        self.check({}, ledger=shut(1, first(1)), box=((2, ("offer", page)),))
        self.check({}, box=((0, ("offer", (3, 1, (4, 4), ()))),))

    def test_agreed(self):
        page = (0, 1, (10, 5), ())
        self.check({"books": books(book(first(0), page))}, box=((0, ("agree", page)),), books=books(book(page)))
        self.check({"books": books(book(first(0), page))}, box=((2, ("agree", page)),), letters=((0, ("offer", page)),))

    def test_turns(self):
        page = (0, 1, (10, 5), ())
        offer = ((0, ("offer", page)),)
        self.check({}, box=((0, ("turn", 0, 0)),), books=books(book(first(0), page)), letters=offer)
        self.check({}, box=((0, ("turn", 0, 1)),))
        self.check({}, box=((2, ("turn", 0, 0)),))
        self.check({}, box=((2, ("turn", 1, 0)),))

    def test_letters_come_in_order(self):
        one = (1, 1, (10, 2), ((1, 3, NINE, 60),))
        two = changed(one, 0, ("pass",))
        three = changed(two, 1, ("pass",))
        given = {"books": books(book(one, two))}
        box = ((2, ("agree", two)), (2, ("offer", three)))
        self.check(given, box=box, books=books(book(three)), letters=((2, ("agree", three)),))
        self.check(given, box=box[::-1], books=books(book(two)))


class Wishing(Looks):
    """Step (b): in channel 0, at number 1, ME is not in turn, so that what it wants can be seen."""

    PAGE = (0, 1, (10, 5), ())
    ASKED = ((0, ("turn", 0, 1)),)

    def test_what_stays_wanted(self):
        late, good = ("add", (1, 1, SEVEN, 15)), ("add", (1, 1, EIGHT, 16))
        wanted = (("pass",), late, good, ("drop", SEVEN), ("pay", EIGHT))
        given = {"books": books(book(self.PAGE, wanted=wanted))}
        self.check(given, books=books(book(self.PAGE, wanted=(good,))), letters=self.ASKED)
        # What a channel wants that is not free stays as it was.
        self.check({**given, "left": (0,)})
        self.check(given, ledger=shut(0, self.PAGE))

    def pay(self, amount=5, ends=(16,), image=SEVEN, moment=15, route=(0,)):
        return (moment, ("pay", route, amount, image, ends))

    def check_begun(self, *adds, pairs=None, newest=PAGE, given=(), wishes=(), left_over=(), **told):
        """All wishes begin: these locks are wanted, with a pair for each."""
        wanted = tuple(("add", lock) for lock in adds)
        pairs = tuple((None, lock[2], 0, (), ()) for lock in adds) if pairs is None else pairs
        letters = self.ASKED if wanted else ()
        told = {"books": books(book(newest, wanted=wanted)), "pairs": pairs, "letters": letters, **told}
        self.check({"books": books(book(newest)), "wishes": wishes, **dict(given)}, wishes=left_over, **told)

    def check_not_begun(self, *wishes, newest=PAGE):
        self.check_begun(wishes=wishes, newest=newest)

    def test_payments(self):
        self.check_begun((1, 5, SEVEN, 16), wishes=(self.pay(),))
        self.check_begun((1, 5, SEVEN, 16), wishes=(self.pay(moment=3),))
        long = self.pay(route=(0, 3, 5), ends=(90, 80, 70))
        self.check_begun((1, 5, SEVEN, 90), wishes=(long,), pairs=((None, SEVEN, 0, (3, 5), (80, 70)),))

    def test_not_yet(self):
        wish = self.pay(moment=16)
        self.check_begun(wishes=(wish,), left_over=(wish,))
        self.check_begun((1, 1, EIGHT, 16), wishes=(wish, self.pay(1, image=EIGHT), wish), left_over=(wish, wish))

    def test_what_the_channel_does_not_let(self):
        self.check_not_begun(self.pay(6))
        self.check_not_begun(self.pay(ends=(15,)))
        self.check_not_begun(self.pay(1, route=(3,)))
        self.check_not_begun(self.pay(1), newest=(0, 1, (9, 5), ((0, 1, SEVEN, 60),)))

    def test_several_payments(self):
        self.check_begun((1, 3, SEVEN, 16), wishes=(self.pay(3), self.pay(3, image=EIGHT)))
        told = ((1, 3, SEVEN, 16), (1, 2, EIGHT, 16))
        self.check_begun(*told, wishes=(self.pay(3), self.pay(2, image=EIGHT)))
        self.check_begun((1, 3, SEVEN, 16), wishes=(self.pay(3), self.pay(2)))
        # One that is let stands behind one that is not.
        self.check_begun((1, 2, EIGHT, 16), wishes=(self.pay(6), self.pay(2, image=EIGHT)))

    def test_eight_locks(self):
        locks = tuple((0, 1, ("image", own), 60) for own in range(10, 17))
        seven = (0, 1, (3, 5), locks)
        self.check_begun((1, 1, SEVEN, 16), newest=seven, wishes=(self.pay(1), self.pay(1, image=EIGHT)))
        self.check_not_begun(self.pay(1), newest=(0, 1, (2, 5), locks + ((0, 1, NINE, 60),)))

    def test_the_least_exposed_sum_counts(self):
        newest = (0, 2, (10, 5), ())
        offered = changed(newest, 1, ("add", (1, 2, NINE, 60)))
        sent, open_book = ((0, ("offer", offered)),), book(newest, offered)
        self.check({"books": books(open_book), "wishes": (self.pay(4),)}, wishes=(), letters=sent)
        told = books(book(newest, offered, wanted=(("add", (1, 3, SEVEN, 16)),)))
        pairs = ((None, SEVEN, 0, (), ()),)
        given = {"books": books(open_book), "wishes": (self.pay(3),)}
        self.check(given, wishes=(), books=told, pairs=pairs, letters=sent)

    def test_leaving(self):
        leave, close = (15, ("leave", 0)), (("close", self.PAGE),)
        held = {"books": books(book(self.PAGE))}
        self.check({**held, "wishes": (leave, leave)}, wishes=(), left=(0,), deeds=close)
        self.check({**held, "wishes": (leave,)}, moment=12)
        self.check({**held, "wishes": (leave,), "left": (0, 2)}, wishes=())
        self.check({**held, "wishes": (leave,)}, ledger=shut(0, self.PAGE), wishes=())
        self.check({**held, "wishes": ((0, ("leave", 3)),)}, wishes=())
        self.check({**held, "left": (1,), "wishes": (leave,)}, wishes=(), left=(0, 1), deeds=close)

    def test_the_order_of_wishes(self):
        leave, close = (15, ("leave", 0)), (("close", self.PAGE),)
        held = {"books": books(book(self.PAGE))}
        self.check({**held, "wishes": (leave, self.pay())}, wishes=(), left=(0,), deeds=close)
        wanted = books(book(self.PAGE, wanted=(("add", (1, 5, SEVEN, 16)),)))
        told = {"books": wanted, "pairs": ((None, SEVEN, 0, (), ()),), "left": (0,), "deeds": close}
        self.check({**held, "wishes": (self.pay(), leave)}, wishes=(), **told)


class Answering(Looks):
    """Step (c), most of it of a lock by which 0 pays ME 4 in channel 0."""

    SECRET = ((0, ("secret", 0, 7)),)
    ASKED = ((0, ("turn", 0, 1)),)

    def test_secrets(self):
        given = {"books": books(book(inward(20))), "secrets": (7,)}
        self.check(given, 12, letters=self.SECRET)
        self.check(given, 15, letters=self.SECRET, deeds=(("close", inward(20)),), left=(0,))
        self.check(given, 18)
        # Behind its end even a lock that is known is dropped.
        self.check(given, 21, letters=self.ASKED)

    def test_asks(self):
        given = {"books": books(book(inward(20)))}
        for asks in (((7, 4),), ((7, 1),), ((7, 5), (7, 4))):
            self.check({**given, "asks": asks}, 12, letters=self.SECRET, secrets=(7,))
        for asks in (((7, 5),), ((8, 1),), ()):
            self.check({**given, "asks": asks}, 12)
            self.check({**given, "asks": asks}, 15)
            self.check({**given, "asks": asks}, 18, letters=self.ASKED)
        # It is too late to let the secret go.
        self.check({**given, "asks": ((7, 4),)}, 18)

    def test_dropped(self):
        gone = (0, 3, (10, 5), ())
        given = {"books": books(book(inward(20, 2)))}
        self.check(given, 15)
        self.check(given, 18, books=books(book(inward(20, 2), gone)), letters=((0, ("offer", gone)),))
        # What is offered is without the lock already.
        given = {"books": books(book(inward(20, 2), gone))}
        self.check(given, 18, letters=((0, ("offer", gone)),))

    def test_held(self):
        """A lock of its own with this image may still be opened: ME sees at 18 whether one with end 16 was."""
        given = {"books": books(book(inward(23)), book(outward(16)))}
        self.check(given, 12)
        self.check(given, 15)
        # From 18 on it is not bound.
        self.check(given, 18)
        self.check(given, 21, letters=self.ASKED)
        given = {"books": books(book(inward(20)), book(outward(16)))}
        self.check(given, 15, deeds=(("close", inward(20)),), left=(0,))
        given = {"books": books(book(inward(20)), book(outward(15)))}
        self.check(given, 15)

    def test_bound_by_what_is_exposed_or_lies(self):
        offered = changed((1, 1, (10, 5), ()), 0, ("add", (0, 4, SEVEN, 30)))
        held = books(book(inward(20)), book((1, 1, (10, 5), ()), offered))
        sent = ((2, ("offer", offered)),)
        self.check({"books": held}, 15, deeds=(("close", inward(20)),), left=(0,), letters=sent)
        # What lies in a channel that ME has left counts, too.
        gone = (1, 2, (10, 5), ())
        held = books(book(inward(20)), book(gone))
        hand_in = (("close", inward(20)), ("close", gone))
        self.check({"books": held, "left": (1,)}, 15, shut(1, outward(30)), deeds=hand_in, left=(0, 1))
        # What lies in a channel of others does not.
        self.check({"books": books(book(inward(20)))}, 15, shut(3, (3, 1, (0, 4), ((0, 4, SEVEN, 30),))))

    def test_passed_on(self):
        given = {"books": books(book(inward(20)), book((1, 1, (10, 5), ())))}
        for end in (0, 14, 16, 18):
            fresh = outward(end, 2)
            held = books(book(inward(20)), book((1, 1, (10, 5), ()), fresh))
            close = {"deeds": (("close", inward(20)),), "left": (0,)} if end > 15 else {}
            self.check(
                {**given, "onward": ((0, SEVEN, (1,), (end,)),)}, 15, books=held, pairs=((0, SEVEN, 1, (), ()),),
                letters=((2, ("offer", fresh)),), **close,
            )
        # The gap is not enough, or it is too late.
        self.check({**given, "onward": ((0, SEVEN, (1,), (19,)),)}, 15)
        self.check({**given, "onward": ((0, SEVEN, (1,), (14,)),)}, 18, letters=self.ASKED)

    def test_passed_on_far(self):
        """What is told goes on without its first channel and end."""
        given = {"books": books(book(inward(23)), book((1, 1, (10, 5), ())))}
        fresh = outward(16, 2)
        held = books(book(inward(23)), book((1, 1, (10, 5), ()), fresh))
        letters = ((2, ("offer", fresh)), (2, ("pass", 1, SEVEN, (5, 6), (9, 3))))
        told = {"books": held, "pairs": ((0, SEVEN, 1, (5, 6), (9, 3)),), "letters": letters}
        self.check({**given, "onward": ((0, SEVEN, (1, 5, 6), (16, 9, 3)),)}, 15, **told)

    def test_not_passed_on(self):
        given = {"books": books(book(inward(20)), book((1, 1, (10, 5), ())))}
        told = (0, SEVEN, (1,), (14,))
        for onward in (
            (), ((0, SEVEN, (), ()),), ((0, SEVEN, (0,), (14,)),), ((0, SEVEN, (3,), (14,)),),
            ((0, EIGHT, (1,), (14,)),),
            ((1, SEVEN, (1,), (14,)),), ((2, SEVEN, (1,), (14,)),), ((0, SEVEN, (9,), (14,)),),
        ):
            self.check({**given, "onward": onward}, 15)
        for page in ((1, 1, (3, 12), ()), (1, 1, (9, 5), ((0, 1, SEVEN, 9),)), (1, 1, (9, 5), ((1, 1, SEVEN, 60),))):
            self.check({"books": books(book(inward(20)), book(page)), "onward": (told,)}, 12)
        self.check({**given, "onward": (told,), "left": (1,)}, 15)
        self.check({**given, "onward": (told,)}, 15, shut(1, (1, 1, (10, 5), ())))
        # Known, it is not passed on.
        self.check({**given, "onward": (told,), "secrets": (7,)}, 12, letters=self.SECRET)

    def test_not_in_turn_it_is_judged_again(self):
        given = {"books": books(book(inward(23))), "onward": ((0, SEVEN, (1,), (14,)),)}
        self.check(given, 12, letters=((2, ("turn", 1, 0)),))
        self.check(given, 18, letters=((2, ("turn", 1, 0)),))

    def test_two_locks_do_not_pass_on_by_one(self):
        both = books(book(inward(20)), book((1, 1, (10, 5), ())), book((2, 1, (2, 6), ((0, 4, SEVEN, 20),))))
        onward = ((0, SEVEN, (1,), (14,)), (2, SEVEN, (1,), (14,)))
        fresh = outward(14, 2)
        held = books(both[0], book((1, 1, (10, 5), ()), fresh), both[2])
        told = {"books": held, "letters": ((2, ("offer", fresh)),)}
        self.check({"books": both, "onward": onward}, 12, pairs=((0, SEVEN, 1, (), ()),), **told)

    def test_with_a_pair_it_is_dropped(self):
        pair = (0, SEVEN, 1, (), ())
        given = {"books": books(book(inward(20)), book((1, 1, (10, 5), ()))), "onward": ((0, SEVEN, (1,), (14,)),)}
        self.check({**given, "pairs": (pair,)}, 12, letters=self.ASKED)
        for other in ((None, SEVEN, 0, (), ()), (2, SEVEN, 1, (), ()), (0, EIGHT, 1, (), ())):
            fresh = outward(14, 2)
            held = books(book(inward(20)), book((1, 1, (10, 5), ()), fresh))
            told = {"books": held, "pairs": (other, pair), "letters": ((2, ("offer", fresh)),)}
            self.check({**given, "pairs": (other,)}, 12, **told)

    def test_a_channel_that_is_not_free_answers_nothing(self):
        given = {"books": books(book(inward(20))), "secrets": (7,), "left": (0,)}
        for moment in (12, 15, 21):
            self.check(given, moment)

    def test_a_gap_that_is_less(self):
        """With a care of 2 for the gap an end out of 19 is passed on to one in of 21: 23 would be enough."""
        given = {"books": books(book(inward(21)), book((1, 1, (10, 5), ()))), "onward": ((0, SEVEN, (1,), (19,)),)}
        fresh = outward(19, 2)
        held = books(book(inward(21)), book((1, 1, (10, 5), ()), fresh))
        told = {"books": held, "pairs": ((0, SEVEN, 1, (), ()),), "letters": ((2, ("offer", fresh)),)}
        self.check({**given, "cares": (2, 0, 0)}, 12, **told)
        self.check({**given, "cares": (1, 0, 0)}, 12)


class Paying(Looks):
    """Step (d), of a lock by which ME pays 2 in channel 1."""

    PAID = (1, 2, (6, 9), ())
    SENT = ((2, ("offer", PAID)),)

    def check_paid(self, given, moment=15, ledger=BARE, end=30, letters=(), **told):
        others = given.get("books", ())
        given = {"secrets": (7,), **given, "books": books(*others, book(outward(end)))}
        told = {"books": books(*others, book(outward(end), self.PAID)), "letters": letters + self.SENT, **told}
        self.check(given, moment, ledger, **told)

    def check_not_paid(self, given, moment=15, ledger=BARE, end=30, **told):
        given = {"secrets": (7,), **given, "books": books(*given.get("books", ()), book(outward(end)))}
        self.check(given, moment, ledger, **told)

    def test_without_a_pair_that_pays(self):
        for pairs in ((), ((None, SEVEN, 1, (), ()),), ((0, EIGHT, 1, (), ()),), ((1, SEVEN, 2, (), ()),)):
            self.check_paid({"pairs": pairs})

    def test_its_secret_must_be_out_and_its_end_ahead(self):
        self.check_paid({}, end=16)
        self.check_not_paid({}, end=15)
        self.check_not_paid({"secrets": (8,), "asks": ((7, 1),)})

    def test_with_a_pair(self):
        given = {"pairs": ((0, SEVEN, 1, (), ()),), "books": (book(inward(20)),)}
        secret = ((0, ("secret", 0, 7)),)
        self.check_paid(given, 12, letters=secret)
        self.check_paid(given, 15, letters=secret, deeds=(("close", inward(20)),), left=(0,))
        self.check_not_paid(given, 18)
        self.check_not_paid({"pairs": given["pairs"]}, 12)
        # Other LOCKS of the channel in count for nothing.
        self.check_not_paid({**given, "books": (book(inward(30, 1, EIGHT)),)}, 12)
        # Of an end in of 3 there is no look by which it could be closed for.
        self.check_not_paid({**given, "books": (book(inward(3)),)}, 0)
        # One pair of two is not enough.
        self.check_not_paid({**given, "pairs": given["pairs"] + ((2, SEVEN, 1, (), ()),)}, 12, letters=secret)
        self.check_paid({**given, "pairs": given["pairs"] + ((None, SEVEN, 1, (), ()),)}, 12, letters=secret)

    def test_the_channel_in_is_closed(self):
        given = {"pairs": ((0, SEVEN, 1, (), ()),), "books": (book(inward(20)),)}
        show = (("show", 0, 7),)
        self.check_paid(given, 18, shut(0, inward(20)), deeds=show)
        # Whatever lies there: the newest one is held.
        self.check_paid(given, 18, shut(0, first(0), 17), deeds=(("close", inward(20)),) + show)
        self.check_not_paid({**given, "books": (book(inward(19)),)}, 18, shut(0, inward(19)), deeds=show)
        self.check_not_paid({"pairs": given["pairs"]}, 18, shut(0, inward(20)), deeds=show)
        # Left, but not closed yet.
        self.check_not_paid({**given, "left": (0,)}, 18)
        self.check_paid({**given, "left": (0,)}, 15)

    def test_not_of_a_channel_that_is_not_free(self):
        self.check_not_paid({"left": (1,)})
        self.check_not_paid({}, ledger=shut(1, outward(30)))

    def test_offered_already(self):
        given = {"secrets": (7,), "books": books(book(outward(30), self.PAID))}
        self.check(given, letters=self.SENT)


class Offering(Looks):
    """Step (e)."""

    def test_in_which_order(self):
        """Of payments, of what passes on or drops, of what is paid the first one is offered."""
        locks = ((0, 1, SEVEN, 30), (1, 1, EIGHT, 14))
        page = (1, 1, (8, 5), locks)
        old = ("add", (0, 1, ("image", 10), 40))
        wish = (15, ("pay", (1,), 2, ("image", 11), (50,)))
        new = ("add", (0, 2, ("image", 11), 50))
        pair = (None, ("image", 11), 1, (), ())
        given = {"secrets": (7,), "wishes": (wish,), "books": books(book(page, wanted=(old,)))}
        fresh = changed(page, 0, old)
        told = {"wishes": (), "books": books(book(page, fresh, wanted=(new,))), "letters": ((2, ("offer", fresh)),)}
        self.check(given, pairs=(pair,), **told)
        given = {**given, "books": books(book(page))}
        fresh = changed(page, 0, new)
        told = {"wishes": (), "books": books(book(page, fresh)), "letters": ((2, ("offer", fresh)),)}
        self.check(given, pairs=(pair,), **told)
        given = {**given, "wishes": ()}
        fresh = changed(page, 0, ("drop", EIGHT))
        self.check(given, books=books(book(page, fresh)), letters=((2, ("offer", fresh)),))
        given = {**given, "books": books(book((1, 1, (8, 6), locks[:1])))}
        fresh = changed((1, 1, (8, 6), locks[:1]), 0, ("pay", SEVEN))
        self.check(given, books=books(book((1, 1, (8, 6), locks[:1]), fresh)), letters=((2, ("offer", fresh)),))

    def test_only_what_is_offered_makes_its_pair(self):
        """A payment is offered ahead of what passes on, which is judged again at the next look."""
        page = (1, 1, (10, 5), ())
        add = ("add", (0, 1, NINE, 40))
        fresh = changed(page, 0, add)
        given = {"books": books(book(inward(20)), book(page, wanted=(add,))), "onward": ((0, SEVEN, (1,), (14,)),)}
        self.check(given, 12, books=books(book(inward(20)), book(page, fresh)), letters=((2, ("offer", fresh)),))

    def test_what_is_still_offered_is_sent_again(self):
        page = (1, 1, (10, 5), ())
        fresh = changed(page, 0, ("add", (0, 1, NINE, 40)))
        held = books(book(inward(20)), book(page, fresh))
        self.check({"books": held, "onward": ((0, SEVEN, (1,), (14,)),)}, 12, letters=((2, ("offer", fresh)),))

    def test_passes_are_sent_as_long_as_the_lock_may_be_opened(self):
        pairs = ((None, SEVEN, 1, (5, 6), (9, 8)), (0, EIGHT, 1, (5,), (7,)), (None, SEVEN, 1, (), ()))
        told = ((2, ("pass", 1, SEVEN, (5, 6), (9, 8))),)
        given = {"books": books(book(outward(16))), "pairs": pairs}
        self.check(given, 15, letters=told)
        self.check(given, 18)
        # Of what is offered, too, and not of what is not free.
        page = (1, 1, (10, 5), ())
        fresh = changed(page, 0, ("add", (0, 1, SEVEN, 16)))
        held = {"books": books(book(page, fresh)), "pairs": pairs}
        self.check(held, 15, letters=((2, ("offer", fresh)),) + told)
        self.check({**held, "left": (1,)}, 15)
        self.check(held, 18, letters=((2, ("offer", fresh)),))

    def test_passes_stand_behind_the_letters_of_all(self):
        inner = (0, 2, (10, 1), ((1, 4, EIGHT, 30),))
        pairs = ((None, SEVEN, 1, (6,), (9,)), (None, EIGHT, 0, (3,), (8,)))
        fresh = changed(inner, 1, ("pass",))
        given = {"books": books(book(inner, fresh), book(outward(30))), "pairs": pairs, "secrets": (7,)}
        paid = changed(outward(30), 0, ("pay", SEVEN))
        letters = ((0, ("offer", fresh)), (2, ("offer", paid)))
        letters += ((0, ("pass", 0, EIGHT, (3,), (8,))), (2, ("pass", 1, SEVEN, (6,), (9,))))
        self.check(given, books=books(book(inner, fresh), book(outward(30), paid)), letters=letters)


class Going(Looks):
    """Step (f)."""

    SECRET = ((0, ("secret", 0, 7)),)

    def test_closing_at_the_last_look(self):
        close = {"deeds": (("close", inward(20)),), "left": (0,)}
        given = {"books": books(book(inward(20)))}
        self.check({**given, "secrets": (7,)}, 15, letters=self.SECRET, **close)
        self.check({**given, "asks": ((7, 4),)}, 15, letters=self.SECRET, secrets=(7,), **close)
        for moment, letters in ((12, ()), (15, ()), (18, Answering.ASKED)):
            self.check({**given, "secrets": (8,), "asks": ((7, 5),)}, moment, letters=letters)
        # A look later nothing can surely be opened any more.
        self.check({**given, "secrets": (7,)}, 18)

    def test_closing_later(self):
        """With a care of 1 the close is handed in one look too late."""
        given = {"books": books(book(inward(20))), "secrets": (7,), "cares": (0, 1, 0)}
        self.check(given, 15, letters=self.SECRET)
        self.check(given, 18, deeds=(("close", inward(20)),), left=(0,))
        self.check({**given, "cares": (0, 2, 0)}, 18)

    def test_no_look_is_in_time(self):
        for end in (0, 3, 4):
            self.check({"books": books(book(inward(end))), "secrets": (7,)}, 0)

    def test_the_newest_is_handed_in(self):
        given = {"books": books(book(inward(30, 3)))}
        close = (("close", inward(30, 3)),)
        for since, deeds in ((15, close), (12, close), (11, ()), (9, ())):
            self.check(given, 15, shut(0, inward(30, 2), since), deeds=deeds)
        for number in (3, 4):
            self.check(given, 15, shut(0, inward(30, number), 15))
        # It is handed in again and again, also by one who has left.
        self.check({**given, "left": (0,)}, 15, shut(0, first(0), 14), deeds=close)

    def test_showing(self):
        show = (("show", 0, 7),)
        for end, deeds in ((16, show), (15, ()), (30, show)):
            self.check({"books": books(book(inward(end))), "secrets": (7,)}, 15, shut(0, inward(end)), deeds=deeds)
        for end, asks, shows in ((17, 4, True), (16, 4, False), (30, 4, True), (30, 5, False)):
            told = {"deeds": show, "secrets": (7,)} if shows else {}
            self.check({"books": books(book(inward(end))), "asks": ((7, asks),)}, 15, shut(0, inward(end)), **told)
        given = {"books": books(book(inward(30))), "secrets": (7,)}
        self.check(given, 15, shut(0, inward(30), 14, ((7, 14),)))
        self.check(given, 15, shut(0, inward(30), 14, ((8, 14),)), secrets=(7, 8), deeds=show)
        # Not of a lock that ME pays itself.
        self.check({"books": books(book(outward(30))), "secrets": (7,)}, 15, shut(1, outward(30)))
        self.check({"secrets": (7,)}, 15, shut(3, (3, 1, (2, 4), ((0, 2, SEVEN, 30),))))

    def test_of_both_sheets(self):
        given = {"books": books(book(inward(30, 1, EIGHT))), "secrets": (7, 8, 9)}
        told = (("show", 0, 7), ("show", 0, 8))
        self.check(given, 15, shut(0, inward(30, 2)), deeds=told)
        newest = inward(30, 3, EIGHT)
        told = (("close", newest),) + told
        self.check({**given, "books": books(book(newest))}, 15, shut(0, inward(30, 2)), deeds=told)

    def test_what_is_shown_is_known_in_the_next_channel(self):
        """In channel 2 the lock is less than what is asked for, but its secret is let go in channel 0."""
        less = (2, 1, (3, 6), ((0, 3, SEVEN, 30),))
        given = {"books": books(book(inward(30)), book(less)), "asks": ((7, 4),)}
        ledger = ((inward(30), 14, ()), None, (less, 14, ()), None)
        self.check(given, 15, ledger, secrets=(7,), deeds=(("show", 0, 7), ("show", 2, 7)))
        # The other way round the lock of channel 0 is judged first.
        less, much = (0, 1, (7, 5), ((0, 3, SEVEN, 30),)), (2, 1, (2, 6), ((0, 4, SEVEN, 30),))
        given = {"books": books(book(less), book(much)), "asks": ((7, 4),)}
        self.check(given, 15, ((less, 14, ()), None, (much, 14, ()), None), secrets=(7,), deeds=(("show", 2, 7),))

    def test_showing_later(self):
        """With a care of 1 nothing is shown ahead of one look behind show_by: 18 for an end of 20."""
        given = {"books": books(book(inward(20))), "cares": (0, 0, 1)}
        ledger, show = shut(0, inward(20)), (("show", 0, 7),)
        for own in ({"secrets": (7,)}, {"asks": ((7, 4),)}):
            for moment in (15, 18, 21):
                self.check({**given, **own}, moment, ledger)
            told = {**given, **own, "books": books(book(inward(22)))}
            self.check(told, 18, ledger)
            self.check(told, 21, shut(0, inward(22)), deeds=show, secrets=(7,))
        self.check({**given, "secrets": (7,), "books": books(book(inward(21)))}, 21, shut(0, inward(21)))


class BesidePlain(unittest.TestCase):
    def test_looks(self):
        seen = collections.Counter()
        for seed in range(2500):
            args = made_minds.at_a_look(seed)
            told = minds.at_look(*args)
            self.assertEqual(told, plain_minds.at_look(*args), seed)
            seen.update(deed[0] for deed in told[1])
            seen.update(letter[0] for _, letter in told[2])
            seen["pair"] += len(told[0][8]) > len(args[0][8])
        for word in ("close", "show", "offer", "agree", "turn", "secret", "pass", "pair"):
            self.assertGreater(seen[word], 100, seen)

    def test_in_every_way_of_calling(self):
        for seed in range(30):
            args = made_minds.at_a_look(seed)
            check_gives(self, minds.at_look, args, plain_minds.at_look(*args))
            for function in (minds.held_by, minds.given_by, minds.known_by):
                check_gives(self, function, args[:1], function(args[0]))

    def test_what_is_told(self):
        for seed in range(300):
            mind_of = made_minds.at_a_look(seed)[0]
            there = {own[0]: own for own in mind_of[4]}
            held = tuple(there[channel][2] if channel in there else None for channel in range(len(mind_of[0])))
            self.assertEqual(minds.held_by(mind_of), held)
            given = {page for own in mind_of[4] for page in own[2:4] if page}
            self.assertEqual(minds.given_by(mind_of), tuple(sorted(given)))
            self.assertEqual(outcome(minds.known_by, mind_of), shape(mind_of[5]))


if __name__ == "__main__":
    unittest.main()
