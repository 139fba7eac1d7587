"""Rules beside a plain going through of all lots of opened images, and of all moments."""

import itertools
import unittest

import made_up
import plain
import plain_rules
from suredue import rules
from suredue.errors import Unfit
from suredue.ledger import begun_ledger, comes, opened_in
from suredue.sheets import has
from support import check_gives, check_raises

TIMES = (2, 3, 4)
ALL_TIMES = [(delay, look, 9) for delay, look in itertools.product(range(1, 5), range(1, 5))]
SEVEN, EIGHT = ("image", 7), ("image", 8)
MID = (0, 3, (6, 4), ((0, 2, SEVEN, 20), (1, 3, EIGHT, 20)))
INNER = MID[3][1]
OUT = (0, 3, EIGHT, 18)
NOTHING, KNOWN, BOUND = ((), ()), ((8,), ()), ((), (EIGHT,))


def keeps(secrets):
    """All keeps of these secrets: each is known, bound, both or neither."""
    for known, bound in itertools.product(plain_lots(secrets), plain_lots(secrets)):
        yield (known, tuple(("image", secret) for secret in bound))


def plain_lots(values):
    return [lot for many in range(len(values) + 1) for lot in itertools.combinations(values, many)]


def pages(many):
    """Made-up sheets, the makers of them too."""
    for seed in range(many):
        make = made_up.maker(seed)
        net = made_up.net(make)
        yield make, made_up.sheet(make, net, make.randrange(len(net)), make.randint(1, 5))


class Given(unittest.TestCase):
    """Each function in every way in which it can be called."""

    def test_worth(self):
        for keep, side, told in (
            (NOTHING, 0, 6), (KNOWN, 0, 9), (BOUND, 0, 9), (((8,), (EIGHT,)), 0, 9), (((7,), (SEVEN,)), 0, 6),
            (NOTHING, 1, 4), (KNOWN, 1, 4), (((7,), ()), 1, 6), (((), (SEVEN, EIGHT)), 1, 6),
        ):
            check_gives(self, rules.worth, (keep, side, MID), told)

    def test_loss(self):
        lent, late = ("add", (0, 4, ("image", 9), 30)), ("add", (1, 4, ("image", 9), 30))
        for keep, side, change, told in (
            (NOTHING, 0, ("pass",), 0), (KNOWN, 0, ("pass",), 0), (NOTHING, 0, lent, 4), (KNOWN, 0, lent, 4),
            (NOTHING, 1, late, 4), (NOTHING, 0, ("drop", EIGHT), 0), (KNOWN, 0, ("drop", EIGHT), 3),
            (BOUND, 0, ("drop", EIGHT), 3), (NOTHING, 0, ("pay", SEVEN), 0), (KNOWN, 1, ("pay", EIGHT), 0),
            (((7,), ()), 1, ("drop", SEVEN), 2),
        ):
            check_gives(self, rules.loss, (keep, side, MID, change), told)

    def test_gives(self):
        for keep, side, change, told in (
            (NOTHING, 0, ("pass",), True), (NOTHING, 0, ("add", (0, 1, ("image", 9), 30)), False),
            (NOTHING, 0, ("drop", EIGHT), True), (KNOWN, 0, ("drop", EIGHT), False), (BOUND, 0, ("drop", EIGHT), False),
            (NOTHING, 0, ("pay", SEVEN), False), (((7,), ()), 0, ("pay", SEVEN), True),
            # A bound image is not known.
            (((), (SEVEN,)), 0, ("pay", SEVEN), False), (((8,), ()), 1, ("pay", EIGHT), True),
        ):
            check_gives(self, rules.gives, (keep, side, MID, change), told)

    def test_changes_that_can_not_be_done(self):
        wrong = [(0, ("pay", EIGHT)), (0, ("drop", SEVEN)), (1, ("pay", SEVEN)), (1, ("drop", EIGHT))]
        wrong += [(0, ("pay", ("image", 9))), (0, ("drop", ("image", 9)))]
        wrong += [(0, ("add", (1, 1, ("image", 9), 30))), (0, ("add", (0, 1, SEVEN, 30)))]
        wrong += [(0, ("add", (0, 7, ("image", 9), 30))), (1, ("add", (1, 5, ("image", 9), 30)))]
        full = MID[:3] + (tuple((1, 1, ("image", own), 20) for own in range(8)),)
        for side, change in wrong:
            for keep in (NOTHING, KNOWN, ((7, 8, 9), ())):
                check_raises(self, rules.loss, (keep, side, MID, change), Unfit())
                check_raises(self, rules.gives, (keep, side, MID, change), Unfit())
        check_raises(self, rules.loss, (NOTHING, 0, full, ("add", (0, 1, ("image", 9), 30))), Unfit())
        check_raises(self, rules.gives, (NOTHING, 0, full, ("add", (0, 1, ("image", 9), 30))), Unfit())

    def test_may_open(self):
        none, later = MID[:3] + ((),), MID[:3] + (((0, 2, SEVEN, 22), (1, 3, EIGHT, 40)),)
        for moment, side, image, sheets, opened, told in (
            (20, 0, SEVEN, (MID,), False, True), (21, 0, SEVEN, (MID,), False, False),
            (21, 0, SEVEN, (MID,), True, True),
            (20, 1, SEVEN, (MID,), False, False), (20, 1, EIGHT, (MID,), False, True),
            (0, 0, ("image", 9), (MID,), False, False),
            (500, 0, ("image", 9), (), True, True), (0, 0, SEVEN, (), False, False),
            (0, 0, SEVEN, (none,), False, False),
            (23, 0, SEVEN, (MID, later), False, True), (24, 0, SEVEN, (later, MID), False, False),
            (20, 0, SEVEN, (none, MID), False, True), (20, 0, SEVEN, (MID, none), False, True),
        ):
            check_gives(self, rules.may_open, (TIMES, moment, side, image, sheets, opened), told)

    def test_passes(self):
        for moment, gap, out, told in (
            (15, 0, OUT, True), (16, 0, OUT, False), (0, 0, (0, 3, EIGHT, 19), False), (0, 2, (0, 3, EIGHT, 19), False),
            (0, 3, (0, 3, EIGHT, 19), True), (15, 3, (0, 3, EIGHT, 21), True), (15, 3, (0, 3, EIGHT, 22), False),
            # However much later the LOCK's end were, its own end must be in time.
            (16, 5, OUT, False), (15, 0, (0, 2, EIGHT, 18), True), (15, 0, (0, 4, EIGHT, 18), False),
            (15, 0, (0, 3, SEVEN, 18), False), (15, 0, (1, 3, EIGHT, 0), True),
        ):
            check_gives(self, rules.passes, (TIMES, moment, gap, INNER, out), told)
        # Of so near an end there is no look that is in time.
        check_gives(self, rules.passes, (TIMES, 0, 9, (1, 3, EIGHT, 4), (0, 3, EIGHT, 0)), False)
        check_gives(self, rules.passes, (TIMES, 0, 0, (1, 3, EIGHT, 5), (0, 3, EIGHT, 3)), True)

    def test_answer(self):
        both = ((8,), (EIGHT,))
        for moment, gap, keep, onward, told in (
            (15, 0, NOTHING, None, "wait"), (16, 0, NOTHING, None, "drop"), (20, 0, NOTHING, None, "drop"),
            (15, 0, NOTHING, OUT, "pass"), (16, 0, NOTHING, OUT, "drop"), (15, 0, NOTHING, (0, 3, EIGHT, 19), "wait"),
            (15, 2, NOTHING, (0, 3, EIGHT, 19), "wait"), (15, 3, NOTHING, (0, 3, EIGHT, 19), "pass"),
            (15, 0, NOTHING, (0, 4, EIGHT, 18), "wait"),
            (15, 0, NOTHING, (0, 3, SEVEN, 18), "wait"), (15, 0, KNOWN, None, "secret"), (15, 0, KNOWN, OUT, "secret"),
            (16, 0, KNOWN, None, "show"), (20, 0, KNOWN, OUT, "show"), (21, 0, KNOWN, OUT, "drop"),
            (15, 0, BOUND, None, "hold"),
            (15, 0, BOUND, OUT, "hold"), (20, 0, BOUND, None, "hold"), (21, 0, BOUND, None, "drop"),
            (15, 0, both, OUT, "secret"),
            (20, 0, both, OUT, "show"), (21, 0, both, OUT, "drop"), (15, 0, ((7,), (SEVEN,)), None, "wait"),
        ):
            check_gives(self, rules.answer, (TIMES, moment, gap, keep, INNER, onward), told)


class BesideLots(unittest.TestCase):
    """All lots of images that are opened."""

    def test_worth(self):
        seen = 0
        for make, page in pages(120):
            for keep, side in itertools.product(keeps((1, 2, 3)), (0, 1)):
                seen += len(page[3]) > 1
                told = rules.worth(keep, side, page)
                self.assertEqual(told, plain_rules.worth(keep, side, page), (keep, side, page))
        self.assertGreater(seen, 1000)

    def test_worth_is_the_least_had(self):
        for make, page in pages(60):
            secrets = [lock[2][1] for lock in page[3]]
            for keep, side in itertools.product(keeps((1, 2, 3)), (0, 1)):
                surely = [lock[2][1] for lock in page[3] if lock[0] != side and plain_rules.counts(keep, lock)]
                shown = [lot for lot in plain_lots(secrets) if all(own in lot for own in surely)]
                found = [has(page, tuple((secret, 0) for secret in lot), side) for lot in shown]
                self.assertEqual(min(found), rules.worth(keep, side, page))

    def test_loss_and_gives(self):
        kinds = []
        for make, page in pages(60):
            fresh = [(side, 1, ("image", secret), 9) for side in (0, 1) for secret in (1, 2, 3, 4)]
            changes = [("pass",)] + [("add", lock) for lock in fresh]
            changes += [(word, ("image", secret)) for word in ("pay", "drop") for secret in (1, 2, 3, 4)]
            for keep, side, change in itertools.product(keeps((1, 2, 3)), (0, 1), changes):
                lost = plain_rules.loss(keep, side, page, change)
                if lost is None:
                    self.assertRaises(Unfit, rules.loss, keep, side, page, change)
                    self.assertRaises(Unfit, rules.gives, keep, side, page, change)
                    continue
                kinds.append((change[0], lost > 0))
                self.assertEqual(rules.loss(keep, side, page, change), lost)
                self.assertIs(rules.gives(keep, side, page, change), plain_rules.gives(keep, side, page, change))
        self.assertEqual(len(set(kinds)), 5, set(kinds))

    def test_what_the_other_side_offers_takes_nothing(self):
        for make, page in pages(60):
            changes = [("pass",)] + [("add", (side, 1, ("image", 4), 9)) for side in (0, 1)]
            changes += [(word, ("image", secret)) for word in ("pay", "drop") for secret in (1, 2, 3)]
            for keep, side, change in itertools.product(keeps((1, 2, 3)), (0, 1), changes):
                fresh = plain.changed(page, 1 - side, change)
                if fresh is not None:
                    self.assertGreaterEqual(rules.worth(keep, side, fresh), rules.worth(keep, side, page))


class BesideMoments(unittest.TestCase):
    """All moments, at the last one at which something holds and one later."""

    def check_all(self, last, told, expected):
        found = [told(moment) for moment in range(last)]
        self.assertEqual(found, [expected(moment) for moment in range(last)])
        return found

    def test_may_open(self):
        for times, end in itertools.product(ALL_TIMES, range(14)):
            page = MID[:3] + (((0, 2, SEVEN, end), (1, 3, EIGHT, 30)),)
            found = self.check_all(
                40,
                lambda own: rules.may_open(times, own, 0, SEVEN, (page,), False),
                lambda own: plain_rules.may_open(times, own, 0, SEVEN, (page,), False),
            )
            # It holds up to the moment ahead of the look at the end, and no longer.
            self.assertEqual(found.count(True), plain_rules.next_look(times, end))
            self.assertNotIn(True, found[plain_rules.next_look(times, end):])

    def test_passes(self):
        for times, end, gap in itertools.product(ALL_TIMES, range(4, 20), (0, 1, 3)):
            lock = (1, 3, EIGHT, end)
            last = plain_rules.last_close(times, end)
            for out_end in range(end + 4):
                out = (0, 3, EIGHT, out_end)
                found = self.check_all(
                    end + 3,
                    lambda own: rules.passes(times, own, gap, lock, out),
                    lambda own: plain_rules.passes(times, own, gap, lock, out),
                )
                if True in found:
                    self.assertTrue(found[last])
                    self.assertNotIn(True, found[last + 1:])
            self.assertFalse(rules.passes(times, 0, gap, lock, (0, 4, EIGHT, 0)))

    def test_answer(self):
        words = []
        keep_of = (NOTHING, KNOWN, BOUND, ((8,), (EIGHT,)))
        for times, end, keep in itertools.product(ALL_TIMES, range(0, 20, 3), keep_of):
            lock = (1, 3, EIGHT, end)
            last = plain_rules.last_close(times, end)
            onwards = (None,) + tuple((0, 3, EIGHT, own) for own in range(0, end, 2))
            for gap, onward in itertools.product((0, 2), onwards):
                found = self.check_all(
                    end + 4,
                    lambda own: rules.answer(times, own, gap, keep, lock, onward),
                    lambda own: plain_rules.answer(times, own, gap, keep, lock, onward),
                )
                words.extend(found)
                self.assertEqual(found[end + 1], "drop")
                if keep[0] and last is not None:
                    self.assertEqual(found[last:last + 2], ["secret", "show"])
        self.assertEqual(sorted(set(words)), ["drop", "hold", "pass", "secret", "show", "wait"])


class OnTheLedger(unittest.TestCase):
    """What passes says beside what the ledger answers."""

    def is_opened_late(self, times, end, out_end):
        """Whether the lock in is opened, the one out being opened at its end, and all coming as late as can be."""
        page = (0, 1, (5, 4), ((1, 3, EIGHT, end),))
        net = ((0, 1, 5, 7),)
        close, show = plain_rules.last_close(times, end), plain_rules.last_show(times, end)
        if close is None:
            return False
        # A show does nothing ahead of the close, so it is handed in as late as can be.
        show = max(show, plain_rules.next_look(times, out_end))
        there = begun_ledger(net)
        for moment, deed in sorted([(close + times[0], ("close", page)), (show + times[0], ("show", 0, 8))]):
            there = comes(net, there, times, moment, (deed,), (page,))
        return opened_in(there, 0) == page[3]

    def test_a_gap_is_enough_or_one_less_is_not(self):
        for times, out_end in itertools.product(ALL_TIMES, range(12, 24)):
            ends = [end for end in range(60) if rules.passes(times, 0, 0, (1, 3, EIGHT, end), (0, 3, EIGHT, out_end))]
            self.assertEqual(ends, list(range(ends[0], 60)))
            self.assertTrue(all(self.is_opened_late(times, end, out_end) for end in ends))
            self.assertFalse(self.is_opened_late(times, ends[0] - 1, out_end))


if __name__ == "__main__":
    unittest.main()
