"""The shell: each request, what is refused, undo, texts that are no requests; drawn ones beside a second telling."""

import collections
import random
import unittest

import made_worlds
import plain_shell
from suredue import dues, payments, plans, settling, worlds
from suredue.errors import BadText
from suredue.ledger import ends_with, lies
from suredue.letters import net_text, plan_text, times_text, wishes_text
from suredue.shell import is_request, shell
from support import NO_NUMBER, NO_TUPLE

NET = "net\n net\n channel 0 1 6 4\n channel 1 2 5 5\n channel 2 3 7 1"


def inner(text):
    """The text with a blank ahead of each of its lines."""
    return "".join(f"\n {line}" for line in text.split("\n"))


class Replies(unittest.TestCase):
    def check(self, text, replies):
        self.assertEqual(shell(text), replies)
        self.assertEqual(shell(text=text), replies)
        self.assertEqual(plain_shell.shell(text), replies)

    def test_at_first(self):
        self.check("", [])
        asked = "moment\nhanded\nsent\nknown\nledger 0\nends\ndue 0\nfates 0 7\ntally 0 7\ntally 1 7"
        self.check(asked, ["0", "0", "0", "-", "open", "0 0", "10", "-", "0 0", "0 0"])
        # The wait is 1.
        self.check("wishes 0\n leave 0 0\nhanded\nquiet 1\nledger 0\nquiet 1\nledger 0\nquiet 1\nledger 0", [
            "done", "1", "done", "waiting 0", "done", "waiting 0", "done", "settled 0",
        ])
        self.check("due 1\ndue 2\nledger 1\nfates 1 7\ntally 2 7\nundo", [
            "refused Unfit", "refused Unfit", "refused NoPlace", "refused NoPlace", "refused Unfit", "refused CanNot",
        ])

    def test_net(self):
        """Nobody is steady, wishes or asks then; the TIMES stay."""
        text = "times\n times 2 1 2\nask 1 7 3\nwishes 0\n leave 0 0\nquiet 3\nledger 0\nknown\n" + NET
        told = ["done"] * 4 + ["waiting 0", "7", "done"]
        asked = "\nmoment\nknown\nends\ndue 0\nhanded\nsteady 0\nwishes 0\n leave 0 0\nquiet 1\nhanded\nquiet 1\nledger 0"
        told += ["0", "-", "0 0 0 0", "refused Unfit", "0", "done", "done", "done", "1", "done", "waiting 0"]
        self.check(text + asked, told)
        for bad in ("\n net", "\n net\n channel 0 0 5 5", "\n net\n channel 0 1 5", "\n net\n channel 0 1 5 5\n ", "\n "):
            self.check(f"net{bad}\ndue 0\nundo", ["refused BadText", "10", "refused CanNot"])

    def test_times(self):
        self.check("wishes 0\n leave 0 0\nquiet 1\nledger 0\ntimes\n times 3 1 3\nmoment\nquiet 2\nledger 0\nquiet 1\nledger 0", [
            "done", "done", "waiting 0", "done", "0", "done", "open", "done", "waiting 0",
        ])
        for bad in ("times 0 1 1", "times 1 0 1", "times 1 1", "times 1 1 01", "time 1 1 1", "times 1 1 1\n ", ""):
            self.check(f"times\n {bad}\nmoment", ["refused BadText", "0"])

    def test_steady(self):
        self.check("steady 1\ndue 0\ndue 1\nsteady 1 0 1\ndue 0\ndue 1", ["done", "refused Unfit", "10", "done", "10", "10"])
        self.check("quiet 4\nsteady 0 2\nmoment\nsteady 1\nmoment", ["done", "refused Unfit", "4", "done", "0"])

    def test_wishes(self):
        text = NET + "\nsteady 0 1 2\n"
        for person, wish, told in (
            (0, "leave 3 0", "done"), (0, "leave 3 1", "refused Unfit"), (0, "leave 3 3", "refused Unfit"),
            (4, "leave 3 0", "refused Unfit"), (0, "leave 3", "refused BadText"), (4, "leaves 3 0", "refused BadText"),
            (0, "pay 1 2 7 0 40", "done"), (0, "pay 1 2 7 0 40 1 30 2 20", "done"), (0, "pay 1 2 7 0 40 0 30", "done"),
            (0, "pay 1 2 7 1 40", "refused Unfit"), (0, "pay 1 2 7 0 40 2 30", "refused Unfit"),
            (0, "pay 1 2 7 0 40 3 30", "refused Unfit"), (3, "pay 1 2 7 2 40 1 30 0 9", "done"),
            (0, "pay 1 0 7 0 40", "refused BadText"), (0, "pay 1 2 7", "refused BadText"), (0, "", "done"),
            (0, "leave 3 0\n leave 4 0", "done"), (0, "leave 3 0\n leave 4 1", "refused Unfit"),
            (9, "", "refused Unfit"), (9, "x", "refused BadText"), (3, "leave 0 2", "done"),
        ):
            self.check(f"{text}wishes {person}\n {wish}", ["done", "done", told])
        # A sum is no PERSON.
        self.check("net\n net\n channel 0 1 2 2\n channel 1 2 5 5\nwishes 2\n leave 3 0\nwishes 2\n leave 3 1", [
            "done", "refused Unfit", "done",
        ])
        # They are put in the place of the ones ahead.
        self.check("wishes 0\n leave 0 0\nwishes 0\n \nquiet 4\nledger 0", ["done", "done", "done", "open"])
        self.check("quiet 4\nwishes 0\n leave 9 0\nmoment\nquiet 10\nledger 0", ["done", "done", "0", "done", "waiting 0"])

    def test_ask(self):
        self.check("ask 1 9 3\nask 1 7 2\nask 0 8 1\nask 2 1 1\nknown", ["done"] * 3 + ["refused Unfit", "7 9"])
        self.check("quiet 3\nask 0 8 1\nmoment\nask 3 8 1\nmoment", ["done", "done", "0", "refused Unfit", "0"])
        # 0 and 1 are steady: 1 pays 4 to 0, which asks for 4 by the later ask.
        text = "net\n net\n channel 0 1 0 9\nsteady 0 1\nask 0 7 9\nask 0 7 4\nwishes 1\n pay 0 4 7 0 60\nswift 20\n"
        self.check(text + "tally 0 7\ntally 1 7\nfates 0 7\ndue 0\ndue 1\nsent\nknown", [
            "done", "done", "done", "done", "done", "done", "4 0", "0 4", "paid", "4", "5", "8", "7",
        ])

    def test_plan(self):
        text = "times\n times 2 1 2\nwishes 0\n leave 0 0\n"
        for plan, replies in (
            ("choice\n choice\n late 0", ["done", "2", "waiting 0"]), ("choice\n late 0", ["done", "1", "waiting 0"]),
            ("choice\n choice", ["refused Unfit", "0", "open"]), ("choice\n late 1", ["refused Unfit", "0", "open"]),
            ("choice\n close 0 0 10 10", ["done", "1", "waiting 0"]), ("choice\n close 0 1 10 10", ["refused Unfit", "0", "open"]),
            ("choice\n close 7 0 10 10", ["refused Unfit", "0", "open"]), ("choice\n show 0 7", ["refused Unfit", "0", "open"]),
            ("choice\n own 1 0\n turn 0 0", ["done", "1", "open"]), ("choice\n own 0 1\n turn 0 0", ["refused Unfit", "0", "open"]),
            ("choice\n sent 0", ["refused Unfit", "0", "open"]), ("chance", ["refused BadText", "0", "open"]),
            ("choice\n own 1 0", ["refused BadText", "0", "open"]), ("", ["done", "0", "open"]),
            # A text with an empty line: it is none only if it is the one line.
            ("\n ", ["refused BadText", "0", "open"]), ("choice\n \n choice", ["refused BadText", "0", "open"]),
            ("choice\n ", ["refused BadText", "0", "open"]), ("\n choice", ["refused BadText", "0", "open"]),
            ("choice\n choice\n late 0\n choice\n late 0", ["refused Unfit", "0", "open"]),
        ):
            self.check(f"{text}plan\n {plan}\nmoment\nledger 0", ["done", "done"] + replies)

    def test_quiet_and_swift(self):
        text = "times\n times 3 1 3\nwishes 0\n leave 0 0\n"
        for request, moment, state in (
            ("quiet 0", "0", "open"), ("quiet 2", "2", "open"), ("quiet 3", "3", "waiting 0"), ("swift 1", "1", "waiting 0"),
            ("swift 5", "5", "settled 0"), ("quiet 6", "6", "waiting 0"), ("quiet 7", "7", "settled 0"),
        ):
            self.check(f"{text}handed\n{request}\nmoment\nledger 0", ["done", "done", "1", "done", moment, state])

    def test_ledger_states(self):
        """A channel with a LOCK: waiting, locked, settled."""
        offer = "choice\n own 1 0\n offer 0 1 10 8\n lock 1 2 7 9"
        close = "choice\n close 0 1 10 8\n lock 1 2 7 9"
        text = f"plan\n {offer}\n {close}\nledger 0\nfates 0 7\nquiet 2\nledger 0\nquiet 5\nledger 0\nends\nfates 0 7"
        self.check(text + "\nquiet 1\nledger 0\nends\nfates 0 7\nmoment", [
            "done", "waiting 1", "open", "done", "locked 1", "done", "locked 1", "0 0", "open", "done", "settled 1", "10 10",
            "void", "10",
        ])

    def test_no_steady_one_in_the_channel(self):
        text = NET + "\nsteady 0\nfates 0 7\nfates 1 7\nfates 3 7\nledger 1\nledger 3\ntally 2 7\ntally 3 7\ntally 4 7"
        self.check(text, [
            "done", "done", "-", "refused Unfit", "refused NoPlace", "open", "refused NoPlace", "0 0", "0 0", "refused Unfit",
        ])
        # A PERSON of no channel is none of the NET.
        apart = "net\n net\n channel 0 5 3 3\n"
        self.check(apart + "tally 4 7\nask 4 7 1\nsteady 4\nwishes 4\n \nends\ntally 5 7", [
            "done", "refused Unfit", "refused Unfit", "refused Unfit", "refused Unfit", "0 0 0 0 0 0", "0 0",
        ])


class Undo(unittest.TestCase):
    DEEDS = (
        ("times\n times 2 1 2", "times"), (NET, "net"), ("steady 1 2", "steady"), ("wishes 1\n leave 3 0", "wishes"),
        ("ask 3 7 1", "ask"), ("plan\n choice\n show 0 7", "plan"), ("quiet 4", "quiet"), ("swift 2", "swift"), ("quiet 0", "quiet"),
    )
    ASKED = ["moment", "handed", "sent", "known", "ledger 0", "ledger 2", "ends", "due 0", "due 1", "tally 3 7"]

    def test_one_after_the_other(self):
        """Behind each undo all is told as it was ahead of the deed."""
        lines, told = list(self.ASKED), [shell("\n".join(self.ASKED))]
        for deed, _ in self.DEEDS:
            lines.append(deed)
            lines += self.ASKED
            told.append(shell("\n".join(lines))[-len(self.ASKED):])
        self.assertGreater(len(set(map(tuple, told))), 6)
        for many in range(1, len(self.DEEDS) + 2):
            lines.append("undo")
            lines += self.ASKED
            replies = shell("\n".join(lines))
            self.assertEqual(replies, plain_shell.shell("\n".join(lines)))
            if many <= len(self.DEEDS):
                self.assertEqual(replies[-len(self.ASKED) - 1], self.DEEDS[-many][1])
                self.assertEqual(replies[-len(self.ASKED):], told[-many - 1])
            else:
                self.assertEqual(replies[-len(self.ASKED) - 1:], ["refused CanNot"] + told[0])

    def test_only_what_was_done(self):
        """What was refused, asked or taken back is not taken back; undo is no deed."""
        text = "quiet 1\nsteady 7\nmoment\nnet\n x\nundo\nundo\nmoment\nquiet 2\nundo\nundo\nmoment"
        self.assertEqual(shell(text), [
            "done", "refused Unfit", "1", "refused BadText", "quiet", "refused CanNot", "0", "done", "quiet", "refused CanNot", "0",
        ])
        self.assertEqual(shell("quiet 1\nquiet 2\nundo\nswift 3\nundo\nundo\nundo\nmoment"), [
            "done", "done", "quiet", "done", "swift", "quiet", "refused CanNot", "0",
        ])


class NoRequests(unittest.TestCase):
    RIGHT = (
        "net\n x", "net\n ", "net\n  x\n \n x", "times\n times 1 1 1", "wishes 0\n ", "wishes 9999999\n x", "plan\n choice",
        "steady 0", "steady 0 12", "steady 1 1 1 1 1 1 1 1 1 1", "ask 0 0 0", "ask 1 22 9999999", "quiet 0", "swift 1234567", "undo",
        "moment", "handed", "sent", "known", "ledger 3", "ends", "due 0", "fates 0 7", "tally 0 7",
    )
    WRONG = (
        "", " ", "x", "net", "times", "wishes 0", "plan", "steady", "wishes\n x", "wishes 0 1\n x", "net 0\n x", "plan 1\n x",
        "steady 0\n x", "moment\n ", "undo\n x", "quiet 1\n ", "moment 0", "ask 0 0", "ask 0 0 0 0", "quiet", "quiet 1 1", "quiet x",
        "quiet 01", "quiet 00", "quiet 12345678", "quiet -1", "quiet +1", "quiet 1.", "ledger", "ledger 1 1", "due", "due 0 0",
        "fates 0", "fates 0 7 7", "tally 7", "steady 0 ", "steady  0", "steady 0  1", "moment ", "Moment", "moments", "undo 1",
        " moment", "moment\t", "moment\r", "quiet\t1", "quiet 1\n", "moment\n\n", "\nmoment", "moment\nmoment", "net\n x\nmoment",
        "steady 0 1 x", "ends\n", "quiet \u0661", "quiet 1_0", "steady,0", "net\nx", "\n net",
    )

    def test_is_request(self):
        for text in self.RIGHT:
            self.assertIs(is_request(text), True, text)
            self.assertIs(is_request(thing=text), True, text)
            self.assertIs(plain_shell.is_request(text), True, text)
        for text in self.WRONG + NO_NUMBER + NO_TUPLE + (b"moment", 0):
            self.assertIs(is_request(text), False, text)
            self.assertIs(plain_shell.is_request(text), False, text)

    def test_the_line_of_the_first_one(self):
        """Where it begins or should begin; whatever comes behind it, and ahead of all replies."""
        for text in self.WRONG:
            first = plain_shell.shell(text)
            if first == [] or text == "" or isinstance(first, list):
                continue
            for ahead, many in (("", 0), ("moment\n", 1), ("net\n x\n y\nsteady 9\n", 4)):
                if ahead and text.startswith(" "):
                    # Behind a request it is a text of that one.
                    continue
                for behind in ("", "\nmoment", "\n\nx"):
                    with self.assertRaises(BadText) as caught:
                        shell(ahead + text + behind)
                    self.assertEqual(caught.exception.line, many + first, (ahead, text, behind))

    def test_lines(self):
        for text, line in (
            ("quiet 1\n\nends", 2), ("quiet 1\n", 2), ("\n", 1), (" \nmoment", 1), (" moment", 1), ("moment\n moment", 1),
            ("net\n net\n channel 0 1 5 5\nmoment\n \nx", 4), ("net\n net\n\n channel 0 1 5 5", 3),
            ("quiet 1\nquiet 1\nquiet 01", 3),
            ("net\nmoment", 1), ("moment\nnet\n x\nsteady\nx", 4), ("x\ny", 1), ("net\n x\nwishes 12345678\n x", 3),
        ):
            with self.assertRaises(BadText) as caught:
                shell(text)
            self.assertEqual((caught.exception.line, plain_shell.shell(text)), (line, line), text)


def drawn_request(make):
    """A request; one in many is none."""
    person, secret = make.randint(0, 3), make.choice((7, 8))
    asked = ["moment", "handed", "sent", "known", "ends", f"ledger {make.randint(0, 3)}", f"due {person}", f"undo",
             f"fates {make.randint(0, 3)} {secret}", f"tally {person} {secret}"]
    deeds = [f"quiet {make.randint(0, 5)}", f"swift {make.randint(0, 9)}", f"ask {person} {secret} {make.randint(0, 3)}",
             f"steady {person} {make.randint(0, 3)}", "plan\n choice\n show 0 7", "plan\n choice\n close 0 0 6 4", "plan\n choice",
             f"wishes {person}\n pay {make.randint(0, 9)} {make.randint(1, 3)} {secret} {make.randint(0, 2)} 50",
             f"wishes {person}\n leave {make.randint(0, 9)} {make.randint(0, 2)}", "times\n times 2 1 2", "times\n times 1 2 2", NET,
             "wishes 0\n pay 2 3 7 0 60 1 50", "ask 2 7 2", "steady 0 1 2"]
    if make.random() < 0.006:
        return make.choice(("", "quiet", "ledger 0 ", "net", "moment 01"))
    if make.random() < 0.6:
        return make.choice(asked)
    # What begins a world anew comes seldom: else nothing comes of any.
    return make.choice(deeds[:2]) if make.random() < 0.7 else make.choice(deeds)


class BesidePlain(unittest.TestCase):
    def test_drawn_texts(self):
        seen = collections.Counter()
        for seed in range(150):
            make = random.Random(seed)
            begun = [NET, "steady 0 1 2", "ask 2 7 2", "wishes 0\n pay 2 3 7 0 60 1 50"] if make.random() < 0.7 else []
            text = "\n".join(begun + [drawn_request(make) for _ in range(30)])
            told = plain_shell.shell(text)
            if isinstance(told, int):
                with self.assertRaises(BadText) as caught:
                    shell(text)
                self.assertEqual(caught.exception.line, told)
                seen["BadText"] += 1
                continue
            replies = shell(text)
            self.assertEqual(replies, told)
            self.assertEqual(shell(text), replies)
            seen.update(replies)
        for word in ("BadText", "done", "refused Unfit", "refused NoPlace", "refused CanNot", "quiet", "net", "open", "paid", "-"):
            self.assertGreater(seen[word], 3, (word, seen))

    def test_plays(self):
        """A made-up play as a text: all that is asked is what the functions tell."""
        for seed in range(8000, 8025):
            make, (net, times, steady, wishes, asks, cares) = made_worlds.begun(seed)
            along, made = made_worlds.played(make, worlds.begun_world(net, times, steady, wishes, asks, cares))
            lines = ["net" + inner(net_text(net)), "times" + inner(times_text(times)), "steady " + " ".join(map(str, steady))]
            lines += [f"wishes {own}{inner(wishes_text(wishes[own]))}" for own in steady]
            here = {own for channel in net for own in channel[:2]}
            lines += [f"ask {own} {secret} {amount}" for own in sorted(here) for secret, amount in asks[own]]
            half = len(made) // 2
            lines += ["plan" + inner(plan_text(tuple(made[:half]))), "plan" + inner(plan_text(tuple(made[half:])))]
            # What one of no channel asks for can not be told to a shell.
            if any(asks[own] for own in range(len(asks)) if own not in here):
                continue
            asked, told = self.asked(along[-1])
            text = "\n".join(lines + asked + ["undo"] + self.asked(along[half])[0])
            replies = shell(text)
            self.assertEqual(replies[:len(lines)], ["done"] * len(lines))
            self.assertEqual(replies[len(lines):len(lines) + len(asked)], told)
            self.assertEqual(replies[len(lines) + len(asked):], ["plan"] + self.asked(along[half])[1])
            self.assertEqual(plans.played(along[0], tuple(made)), along)

    def asked(self, world):
        """Requests and their replies in a world."""
        net, times, steady, moment, ledger = world[:5]
        found = [("moment", moment), ("handed", len(world[8])), ("sent", len(world[7]))]
        found.append(("known", " ".join(map(str, world[10])) or "-"))
        found.append(("ends", " ".join(map(str, ends_with(net, ledger, times, moment)))))
        found += [(f"due {own}", dues.due(world, own)) for own in steady]
        for channel in range(len(net)):
            state, page = settling.state_of(ledger, times, channel, moment), lies(ledger, channel)
            found.append((f"ledger {channel}", state if page is None else f"{state} {page[1]}"))
            for secret in made_worlds.SECRETS:
                image = ("image", secret)
                if set(net[channel][:2]) & set(steady):
                    fates = payments.fates(worlds.sealed_in(world, channel), ledger[channel], moment, image)
                    found.append((f"fates {channel} {secret}", " ".join(fates) or "-"))
                gets, gives = payments.tallies_of(world, image)[net[channel][0]]
                found.append((f"tally {net[channel][0]} {secret}", f"{gets} {gives}"))
        return [request for request, _ in found], [str(told) for _, told in found]


if __name__ == "__main__":
    unittest.main()
