"""The judge: claims of each kind that are so and such as are not by one, papers, verdicts, what comes of what."""

import collections
import random
import unittest

import made_claims
import plain_judge
from made_claims import AGAINST, ASKS, DUE, FALSE, IMAGE, LATE, LEAST, LOCKED, PLAIN, SETTLED, SHUT, TRUE, WAIT
from made_claims import WHOLE, WISHES
from suredue import judge
from suredue.errors import Unfit
from support import DEEP, NO_NUMBER, NO_TUPLE, bends, check_gives, check_raises, listed, outcomes, put


class Claims(unittest.TestCase):
    def test_right(self):
        for claim in TRUE + FALSE:
            check_gives(self, judge.is_claim, (claim,), True)
            check_gives(self, judge.is_claim, (listed(claim),), False)
        for claim in (
            ("wait", 1, 1, 0), ("whole", (), (), (), (), IMAGE), ("whole", (), ((),), ((),), ((0, 0),), IMAGE),
            ("least", LATE, 0), put(DUE, (4,), 0), put(SETTLED, (6,), ()), put(SETTLED, (7,), 3),
            put(put(put(SETTLED, (3, 0, 1), 0), (5,), 0), (7,), 1),
            # Beyond the bounds.
            ("wait", 10 ** 30, 10 ** 30, 10 ** 30), put(SETTLED, (7,), 10 ** 30), put(LEAST, (1, 3), 10 ** 30),
        ):
            self.assertIs(judge.is_claim(claim), True, claim)
            self.assertIs(plain_judge.claim(claim), True, claim)

    def test_wrong(self):
        net = SETTLED[1] + ((1, 2, 3, 3),)
        other = (SHUT[0], ((1, 0, (3, 3), ()), 5, ()))
        for claim in (
            ("wait", 0, 3, 6), ("wait", 4, 0, 6), ("wait", 4, 3, -1), ("wait", 4, 3), ("wait", 4, 3, 6, 6), ("waits", 4, 3, 6),
            ("wait", True, 3, 6), ("least", LATE), ("least", LATE, -1), ("least", LATE[:3], 4), ("least", LATE, True),
            put(DUE, (1,), ()), put(DUE, (2,), (1, 1)), put(DUE, (3, 0), 2), put(DUE, (3, 1), -1), put(DUE, (4,), -1),
            put(DUE, (3, 3, 0), (0, 0, (6, 4), ())), put(WHOLE, (1,), (1, 0)), put(WHOLE, (1,), (0, 3)),
            put(WHOLE, (1,), (0, 0)), put(WHOLE, (2,), WISHES[:2]), put(WHOLE, (3,), ASKS + ((),)), put(WHOLE, (4,), ((0, 4),)),
            put(WHOLE, (3, 2, 0, 1), 0), put(WHOLE, (3, 2, 0), (7,)), put(WHOLE, (4, 1), (4, -1)), put(WHOLE, (4, 1), (4, 4, 0)),
            put(WHOLE, (5,), 7), put(WHOLE, (2, 0, 0, 1, 1), ()), put(WHOLE, (2, 0, 0, 1), ("pay", (), 4, IMAGE, ())),
            put(WHOLE, (2, 0, 0, 1, 2), 0),
            put(WHOLE, (2, 0, 0, 1, 4), (20,)), put(WHOLE, (2, 0, 0, 1, 0), "leave"), put(WHOLE, (2, 0, 1, 1), ("leave", -1)),
            put(WHOLE, (2, 0, 1), ("leave", 0)), put(WHOLE, (2, 0, 1, 0), -1), put(SETTLED, (3,), (None,)),
            put(SETTLED, (3, 0, 1), 3), put(SETTLED, (3, 0, 2), ((7, 3),)), put(SETTLED, (4,), 1), put(SETTLED, (4,), -1),
            put(SETTLED, (6,), ((0, 1, (5, 4), ()),)), put(SETTLED, (7,), 2), put(SETTLED, (5,), 0), SETTLED[:7],
            # A channel that is open in the ledger, though another one is closed.
            put(put(put(SETTLED, (1,), net), (3,), SHUT + (None,)), (4,), 1), (), ("settled",), None, "wait", [WAIT],
        ) + NO_TUPLE:
            self.assertIs(judge.is_claim(claim), False, claim)
            self.assertIs(plain_judge.claim(claim), False, claim)
        # What comes later in another channel is no matter.
        self.assertIs(judge.is_claim(put(put(SETTLED, (1,), net), (3,), other)), True)

    def test_bent_claims(self):
        seen = collections.Counter()
        for claim in TRUE:
            for thing in bends(claim):
                told = plain_judge.claim(thing)
                self.assertIs(judge.is_claim(thing), told, thing)
                seen[told] += 1
        for seed in range(60):
            make, claim = random.Random(seed), made_claims.claim(seed)
            self.assertIs(judge.is_claim(claim), True)
            for thing in bends(claim):
                if make.random() < 0.03:
                    told = plain_judge.claim(thing)
                    self.assertIs(judge.is_claim(thing), told, thing)
                    seen[told] += 1
        self.assertGreater(min(seen.values()), 300, seen)


class Papers(unittest.TestCase):
    def test_so_and_not_by_one(self):
        for claim in TRUE:
            check_gives(self, judge.is_so, (claim,), True)
            check_gives(self, judge.paper, (claim,), ())
            check_gives(self, judge.is_paper_for, (claim, ()), True)
            for thing in AGAINST + NO_TUPLE[:-1] + ((None,), [], ((),)):
                if thing != () or thing.__class__ is not tuple:
                    check_gives(self, judge.is_paper_for, (claim, thing), False)
        for claim, thing in zip(FALSE, AGAINST):
            check_gives(self, judge.is_so, (claim,), False)
            check_gives(self, judge.is_paper_for, (claim, ()), False)
            check_gives(self, judge.is_paper_against, (claim, thing), True)
            check_gives(self, judge.is_paper_against, (claim, listed(thing)), False)
            told = outcomes(self, judge.paper, (claim,))
            self.assertEqual(told, repr(judge.paper(claim)))
            self.assertIs(judge.is_paper_against(claim, judge.paper(claim)), True)

    def test_none_against_what_is_so(self):
        for claim in TRUE:
            for thing in AGAINST + NO_TUPLE + DEEP:
                check_gives(self, judge.is_paper_against, (claim, thing), False)

    def test_made_up_claims(self):
        """The told PAPER judged, and all others, beside own judges."""
        seen = collections.Counter()
        for seed in range(1200):
            make, claim = random.Random(seed), made_claims.claim(seed)
            told = plain_judge.is_so(claim)
            self.assertIs(judge.is_so(claim), told, claim)
            seen[claim[0], told] += 1
            paper = judge.paper(claim)
            if told:
                self.assertEqual(paper, ())
            else:
                self.assertIs(plain_judge.against(claim, paper), True, (claim, paper))
            for thing in made_claims.some_papers(make, claim) + [paper, ()]:
                wanted = plain_judge.verdict(claim, thing)
                self.assertIs(judge.is_paper_against(claim, thing), wanted == "against", (claim, thing))
                self.assertIs(judge.is_paper_for(claim, thing), wanted == "for", (claim, thing))
                self.assertEqual(judge.verdicts((claim,), (thing,)), [wanted])
                self.assertFalse(told and wanted == "against")
                seen[claim[0], wanted] += 1
        self.assertEqual(len(seen), 25)
        self.assertGreater(min(seen.values()), 25, seen)

    def test_bent_papers(self):
        seen = collections.Counter()
        for claim, paper in zip(FALSE, AGAINST):
            for thing in bends(paper):
                wanted = plain_judge.against(claim, thing)
                self.assertIs(judge.is_paper_against(claim, thing), wanted, (claim, thing))
                seen[wanted] += 1
            for thing in NO_TUPLE + DEEP:
                # With () a channel may stay unsettled: that no SHEET more comes is against none of these.
                self.assertIs(judge.is_paper_against(claim, thing), False)
        self.assertGreater(min(seen.values()), 10, seen)

    def test_true_is_no_number(self):
        claim = ("whole", (0, 1), ((), ()), ((), ()), ((0, 0), (0, 1)), IMAGE)
        for thing, told in ((("gives", 1), True), (("gives", True), False), (["gives", 1], False), (("gives", 0), False)):
            self.assertIs(judge.is_paper_against(claim, thing), told)

    def test_a_row_that_carries_nothing(self):
        """Nothing need come: a channel with a LOCK that is not opened."""
        shut = put(put(SETTLED, (3, 0, 0), LOCKED), (7,), 9)
        self.assertEqual(judge.verdicts((shut, put(shut, (7,), 10)), ((), ())), ["against", "for"])
        for row, told in (((("show", 0, 7),), "none"), ((("show", 0, 8),), "against"), ((("close", LOCKED),), "against")):
            self.assertEqual(judge.verdicts((shut,), (row,)), [told])
        # A SHEET that is not sealed is passed by.
        page = (0, 2, (5, 3), ((0, 2, ("image", 7), 99),))
        self.assertEqual(judge.verdicts((SETTLED, put(SETTLED, (7,), 9)), ((("close", page),), (("close", page),))), ["none"] * 2)

    def test_great_numbers(self):
        """A CLAIM may be greater than the bounds."""
        claim = ("wait", 5, 20000, 20003)
        self.assertIs(judge.is_so(claim), False)
        self.assertIs(judge.is_paper_against(claim, judge.paper(claim)), True)
        self.assertIs(judge.is_so(put(claim, (3,), 20004)), True)
        self.assertEqual(judge.paper(put(claim, (3,), 20004)), ())


class Several(unittest.TestCase):
    def test_verdicts(self):
        claims, things = TRUE + FALSE + FALSE + TRUE, ((),) * 5 + AGAINST + ((),) * 5 + AGAINST
        told = ["for"] * 5 + ["against"] * 5 + ["none"] * 10
        self.assertEqual(judge.verdicts(claims, things), told)
        self.assertEqual(judge.verdicts(listed(claims), list(things)), told)
        self.assertEqual(judge.verdicts(claims=list(claims), things=things), told)
        # A list within things is a list.
        self.assertEqual(judge.verdicts(TRUE, listed(things[:5])), ["none"] * 5)
        self.assertEqual(judge.verdicts(FALSE, listed(AGAINST)), ["none"] * 5)
        check_gives(self, judge.verdicts, ((), ()), [])
        one, other = judge.verdicts(TRUE, ((),) * 5), judge.verdicts(TRUE, ((),) * 5)
        one.append(None)
        self.assertEqual(other, ["for"] * 5)

    def test_first_false(self):
        check_gives(self, judge.first_false, ((),), None)
        check_gives(self, judge.first_false, (TRUE,), None)
        for at in range(5):
            check_gives(self, judge.first_false, (TRUE[:at] + FALSE[at:],), at)
            check_gives(self, judge.first_false, (TRUE[:at] + FALSE[at:at + 1] + TRUE,), at)

    def test_unfit(self):
        """What is no CLAIM comes before all else; so does one behind one that is not so."""
        for claim in (None, (), 7, "wait", ("wait", 0, 3, 6), put(DUE, (3, 1), -1), put(WHOLE, (1,), (0, 3))):
            for function in (judge.is_so, judge.paper):
                check_raises(self, function, (claim,), Unfit())
            for thing in ((), None):
                check_raises(self, judge.is_paper_for, (claim, thing), Unfit())
                check_raises(self, judge.is_paper_against, (claim, thing), Unfit())
            for claims in ((claim,), TRUE + (claim,), (FALSE[0], claim), (claim, WAIT)):
                check_raises(self, judge.first_false, (claims,), Unfit())
                check_raises(self, judge.comes_of, (WAIT, claims), Unfit())
                self.assertRaises(Unfit, judge.verdicts, claims, ((),) * len(claims))
                self.assertRaises(Unfit, judge.verdicts, claims, ())
            check_raises(self, judge.comes_of, (claim, ()), Unfit())
            check_raises(self, judge.comes_of, (claim, TRUE), Unfit())
        for things in ((), ((),) * 4, ((),) * 6):
            check_raises(self, judge.verdicts, (TRUE, things), Unfit())
        check_raises(self, judge.verdicts, ((), ((),)), Unfit())


class ComesOf(unittest.TestCase):
    def check(self, claim, other, told):
        check_gives(self, judge.comes_of, (claim, (other,)), told)
        self.assertIs(plain_judge.comes_of_one(claim, other), told)

    def test_rules_by_one(self):
        """Each number one less and one more."""
        for path, less, more in (((1,), True, False), ((2,), True, False), ((3,), False, True)):
            at = WAIT[path[0]]
            self.check(put(WAIT, path, at - 1), WAIT, less)
            self.check(put(WAIT, path, at + 1), WAIT, more)
        for claim in (LEAST, DUE):
            self.check(claim[:-1] + (claim[-1] - 1,), claim, True)
            self.check(claim[:-1] + (claim[-1] + 1,), claim, False)
        self.check(put(SETTLED, (7,), 11), SETTLED, True)
        self.check(put(SETTLED, (7,), 9), SETTLED, False)
        self.check(("wait", 3, 2, 9), WAIT, True)
        self.check(("wait", 3, 2, 5), WAIT, False)

    def test_all_else_is_alike(self):
        for claim, path, part in (
            (LEAST, (1, 3), 9), (LEAST, (1, 2), (4, 9, 7)), (DUE, (1,), ((0, 1, 4, 6), (2, 3, 0, 0))), (DUE, (2, 2), 2),
            (DUE, (3, 5), (7,)),
            (WHOLE, (5,), ("image", 8)), (WHOLE, (4, 0, 1), 3), (WHOLE, (1,), (0, 1)), (SETTLED, (2, 2), 3), (SETTLED, (5,), 1),
            (SETTLED, (6,), ()), (SETTLED, (3, 0, 2), ((7, 2),)),
        ):
            other = put(claim, path, part)
            if claim is DUE and path == (1,):
                other = put(put(other, (3, 2), (None, None)), (3, 3), PLAIN[3] + (None,))
            self.assertIs(judge.is_claim(other), True, other)
            self.check(other, claim, False)
            self.check(claim, other, False)
            # By a lesser one of its own, too.
            step = 1 if claim is SETTLED else -1
            lesser = put(other, (len(other) - 1,), other[-1] + step) if claim is not WHOLE else other
            self.check(lesser, claim, False)
        for one in TRUE:
            for other in TRUE:
                self.check(one, other, one is other)

    def test_of_several(self):
        """From one of them, not from several together; it need not be so."""
        check_gives(self, judge.comes_of, (WAIT, ()), False)
        for claim in TRUE + FALSE:
            check_gives(self, judge.comes_of, (claim, TRUE + FALSE), True)
        check_gives(self, judge.comes_of, (("wait", 4, 3, 5), (("wait", 4, 2, 5), ("wait", 3, 3, 5))), False)
        check_gives(self, judge.comes_of, (("wait", 3, 3, 5), (LEAST, ("wait", 4, 3, 5), DUE)), True)

    def test_what_comes_of_what_is_so_is_so(self):
        seen = collections.Counter()
        for seed in range(250):
            claim = made_claims.claim(seed)
            for at in range(1, len(claim)):
                for step in (-1, 1, 3):
                    if isinstance(claim[at], int):
                        other = put(claim, (at,), claim[at] + step)
                        if judge.is_claim(other):
                            told = judge.comes_of(other, (claim,))
                            self.assertIs(told, plain_judge.comes_of_one(other, claim))
                            self.assertTrue(judge.is_so(other) or not (told and judge.is_so(claim)))
                            seen[told] += 1
        self.assertGreater(min(seen.values()), 100, seen)


class Kinds(unittest.TestCase):
    def test_values_of_other_kinds(self):
        for thing in NO_TUPLE + NO_NUMBER + DEEP:
            self.assertIs(judge.is_claim(thing), False)


if __name__ == "__main__":
    unittest.main()
