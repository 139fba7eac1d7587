"""The promises of section 1 over plays of the whole: dues, moments, payments, papers and texts."""

import collections
import itertools
import unittest

import made_worlds
import plain_judge
from suredue import clocks, dues, games, judge, letters, minds, payments, plans, takings, worlds
from suredue.ledger import ends_with, is_settled
from test_dues import sealed_payments

LEAVE = 40


class Play:
    """A made-up play to its end, and what is due to each steady one in each of its worlds."""

    def __init__(self, seed, many_steady=None):
        make, args = made_worlds.begun(seed, many_steady, LEAVE)
        self.make, self.args = make, args
        self.net, self.times, self.steady, self.wishes, self.asks, _ = args
        self.along, made = made_worlds.played(make, worlds.begun_world(*args))
        self.first, self.last, self.plan = self.along[0], self.along[-1], tuple(made)
        self.dues = {person: [dues.due(world, person) for world in self.along] for person in self.steady}
        self.ends = ends_with(self.net, self.last[4], self.times, self.last[3])

    def paid(self, place):
        """For each choice what the one at this place of the steady ones seals for own payments behind it."""
        return [sealed_payments(one[5][place], other[5][place]) for one, other in zip(self.along, self.along[1:])]

    def settled_at(self, channel):
        """The first moment at which a channel is settled."""
        found = [world[3] for world in self.along if is_settled(world[4], self.times, channel, world[3])]
        return found[0] if found else None

    def channels(self):
        """The channels that have a steady one."""
        return [at for at, channel in enumerate(self.net) if set(channel[:2]) & set(self.steady)]


PLAYS = [Play(seed, 1) for seed in range(9000, 9040)] + [Play(seed) for seed in range(9100, 9240)]


class Promises(unittest.TestCase):
    def test_ends_with_what_was_due(self):
        """(a) At any moment before: what is due then less what is sealed later for own payments."""
        tight = 0
        for play in PLAYS:
            self.assertTrue(made_worlds.is_over(play.last))
            for place, person in enumerate(play.steady):
                told, paid = play.dues[person], play.paid(place)
                for at in range(len(told)):
                    later = sum(paid[at:])
                    self.assertGreaterEqual(play.ends[person], told[at] - later)
                    tight += play.ends[person] == told[at] - later
                for at, fall in enumerate(paid):
                    self.assertGreaterEqual(told[at + 1], told[at] - fall)
        self.assertGreater(tight, 500)

    def test_what_is_left_is_settled_in_time(self):
        """(a) All steady ones leave all at LEAVE: by the moment that is told for the ends of all that can lie there."""
        just = 0
        for play in PLAYS:
            for channel in play.channels():
                ends = [lock[3] for page in worlds.sealed_in(play.last, channel) for lock in page[3]]
                told = clocks.settled_by(play.times, LEAVE, tuple(ends))
                self.assertLessEqual(play.settled_at(channel), told)
                just += play.settled_at(channel) == told
        self.assertGreater(just, 10)

    def test_just_enough_waiting(self):
        """(b) With the least nothing is taken by the plays above; with one less by the plan that is made."""
        for play in PLAYS:
            self.assertEqual(takings.takes_from(play.first, play.plan), ())
        for kind, delay, look in itertools.product(("wait", "gap", "go", "show"), (1, 3), (1, 2, 4)):
            world, plan = takings.taking(kind, delay, look)
            self.assertEqual(takings.takes_from(world, plan), (0,))
            self.assertNotEqual(plans.falls(world, plan, 0), ())

    def test_payments_are_whole_or_nothing(self):
        """(c) A payer pays only if the secret is out; one between never loses; a payee gets what it asked, or nobody pays."""
        seen = collections.Counter()
        for play in PLAYS:
            shown = {secret for entry in play.last[4] if entry for secret, _ in entry[2]}
            for secret in made_worlds.SECRETS:
                image = ("image", secret)
                told = payments.tallies_of(play.last, image)
                self.assertEqual(payments.breaches(play.steady, play.wishes, play.asks, told, image), ())
                for place, person in enumerate(play.steady):
                    gets, gives = told[person]
                    seen["gives"] += gives > 0
                    if gives > 0:
                        self.assertTrue(secret in minds.known_by(play.last[5][place]) or secret in shown)
                        self.assertLessEqual(gives, gets + payments.wished(play.wishes[person], image))
                # When all is settled no fate of a channel with a steady one is open.
                for channel in play.channels():
                    pages = worlds.sealed_in(play.last, channel)
                    fates = payments.fates(pages, play.last[4][channel], play.last[3], image)
                    self.assertNotIn("open", fates)
                    seen.update(fates)
        self.assertGreater(min(seen["paid"], seen["void"], 9 * seen["gives"]), 80, seen)

    def test_payments_over_rows_of_steady_ones_and_others(self):
        """(c) Of those between and beside some are of the rest, which holds, loses and doubles all letters."""
        seen = collections.Counter()
        for seed in range(9300, 9420):
            make, args = made_worlds.payment(seed)
            along, _ = made_worlds.played(make, worlds.begun_world(*args), 260, (0.0, 0.0, 0.004, 0.02))
            net, _, steady, wishes, asks, _ = args
            self.assertTrue(made_worlds.is_over(along[-1]))
            image, many = ("image", 1), len(wishes) - 2
            told = payments.tallies_of(along[-1], image)
            self.assertEqual(payments.breaches(steady, wishes, asks, told, image), ())
            asked, alone = payments.asked(asks[many], image), sum(own != () for own in asks) == 1
            paid = 0 in steady and told[0][1] > told[0][0]
            if alone and many in steady:
                # The payee gets it, or nobody that is steady gives anything.
                self.assertTrue(told[many][0] >= asked or not any(told[own][1] for own in steady if own != many))
                seen["to a steady one"] += paid
            seen["paid"] += paid
            seen["not paid"] += not paid
            seen["between"] += any(told[own] > (0, 0) for own in steady if 0 < own < many)
            for place, person in enumerate(steady):
                due = [dues.due(world, person) for world in along[:1] + along[-1:]]
                own = payments.wished(wishes[person], image)
                self.assertGreaterEqual(due[1], due[0] - own)
        self.assertGreater(min(seen.values()), 15, seen)

    def test_small_worlds_are_gone_through(self):
        """(d) No drawn row of deeds ends with less than the least end, and there is a plan for that."""
        for wait, shares in itertools.product((1, 2, 3), ((0, 5), (7, 2, 5))):
            game = ("channel", (2, 1, wait), shares, 5)
            least, found = games.least_end(game), set()
            closes = [(), (("close", "in", 0),), (("close", "in", len(shares) - 2),)]
            lates = [(), (("late", "in"),)]
            for rows in itertools.product([one + other for one in closes for other in lates], repeat=5):
                if games.is_game_plan(game, rows):
                    found.add(games.ended(game, rows))
            self.assertEqual(min(found), least)
            self.assertEqual(games.ended(game, games.worst_plan(game)), least)

    def test_two_people_agree(self):
        """(e) Two steady ones hold SHEETS that are at most one offer apart, and seal no two of one number."""
        for play in PLAYS:
            for world in play.along[::10]:
                for channel in play.channels():
                    people = play.net[channel][:2]
                    numbers = [page[1] for page in worlds.sealed_in(world, channel)]
                    self.assertEqual(numbers, list(range(len(numbers))))
                    if set(people) <= set(play.steady):
                        held = [minds.held_by(world[5][play.steady.index(person)])[channel] for person in people]
                        self.assertLessEqual(abs(held[0][1] - held[1][1]), 1)
                        if held[0][1] == held[1][1]:
                            self.assertEqual(held[0], held[1])


class Judged(unittest.TestCase):
    """(f) One judge for plans and dues, and texts of all."""

    def test_dues(self):
        for play in PLAYS[::3]:
            for world in play.along[::20]:
                for person in play.steady:
                    view = worlds.view_of(world, person)
                    amount = dues.due(world, person)
                    claims = [("due", play.net, play.times, view, own) for own in (amount, amount + 1)]
                    self.assertEqual([judge.is_so(claim) for claim in claims], [True, False])
                    papers = [judge.paper(claim) for claim in claims]
                    self.assertEqual(judge.verdicts(claims, papers), ["for", "against"])
                    self.assertIs(plain_judge.against(claims[1], papers[1]), True)

    def test_settling(self):
        """What the play comes to is so: a channel is settled by the moment that is told when it was closed."""
        for play in PLAYS[::2]:
            for channel in play.channels():
                world = [one for one in play.along if one[4][channel] is not None][0]
                sealed = worlds.sealed_in(play.last, channel)
                claim = ("settled", play.net, play.times, world[4], channel, world[3], sealed, world[3] + 60)
                self.assertIs(judge.is_so(claim), True)
                by = min(own for own in range(world[3] + 1, world[3] + 61) if judge.is_so(claim[:7] + (own,)))
                self.assertLessEqual(play.settled_at(channel), by)
                if by > world[3] + 1:
                    less = claim[:7] + (by - 1,)
                    self.assertEqual(judge.verdicts((less,), (judge.paper(less),)), ["against"])
                self.assertIs(judge.comes_of(claim, (claim[:7] + (by,),)), True)

    def test_payments(self):
        for play in PLAYS:
            claims = []
            for secret in made_worlds.SECRETS:
                image = ("image", secret)
                asks = tuple(tuple(ask for ask in own if ask[1] > 0) for own in play.asks)
                told = payments.tallies_of(play.last, image)
                claims.append(("whole", play.steady, play.wishes, asks, told, image))
            self.assertIsNone(judge.first_false(claims))
            self.assertEqual(judge.verdicts(claims, ((),) * len(claims)), ["for"] * len(claims))

    def test_plans(self):
        """A PLAN is its own paper: its text tells all that comes of it."""
        for play in PLAYS[::2]:
            plan = letters.plan_read(letters.plan_text(play.plan))
            self.assertEqual(plan, play.plan)
            self.assertIs(plans.is_plan(play.first, plan), True)
            self.assertEqual(plans.played_out(play.first, plan), play.last)
            self.assertEqual(plans.ends_of(play.first, plan), play.ends)
            for person in play.steady:
                self.assertEqual(plans.dues_along(play.first, plan, person), play.dues[person])

    def test_texts(self):
        for play in PLAYS:
            sent = tuple(part[2] for part in play.last[7])
            self.assertEqual(letters.letters_read(letters.letters_text(sent)), sent)
            deeds = tuple(deed for row in plans.rows_of(play.first, play.plan) for deed in row)
            self.assertEqual(letters.deeds_read(letters.deeds_text(deeds)), deeds)
            for person in play.steady:
                wishes = play.wishes[person]
                self.assertEqual(letters.wishes_read(letters.wishes_text(wishes)), wishes)
            self.assertEqual(letters.net_read(letters.net_text(play.net)), play.net)
            self.assertEqual(letters.times_read(letters.times_text(play.times)), play.times)


if __name__ == "__main__":
    unittest.main()
