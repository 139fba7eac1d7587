"""Section 22 told a second time: requests found by patterns, and a shell over plain dicts."""

import re

from suredue import dues, ledger, letters, payments, settling, worlds
from suredue.errors import BadText, CanNot, NoPlace, Unfit

NUMBER = "(0|[1-9][0-9]{0,6})"
HEADS = {word: f"{word}{f' {NUMBER}' * many}" for word, many in (
    ("net", 0), ("times", 0), ("wishes", 1), ("plan", 0), ("ask", 3), ("quiet", 1), ("swift", 1), ("undo", 0), ("moment", 0),
    ("handed", 0), ("sent", 0), ("known", 0), ("ledger", 1), ("ends", 0), ("due", 1), ("fates", 2), ("tally", 2),
)}
HEADS["steady"] = f"steady( {NUMBER})+"
TEXTS = ("net", "times", "wishes", "plan")


def parted(text):
    """The rows (line, head, text or None) of requests, or of what should be one."""
    found = []
    for at, line in enumerate(text.split("\n") if text else [], 1):
        if line[:1] == " " and found:
            head = found.pop()
            found.append(head[:2] + (line[1:] if head[2] is None else head[2] + "\n" + line[1:],))
        else:
            found.append((at, line, None))
    return found


def is_head(head, text):
    word = head.split(" ")[0]
    return word in HEADS and re.fullmatch(HEADS[word], head) is not None and (text is None) == (word not in TEXTS)


def is_request(thing):
    if thing.__class__ is not str:
        return False
    rows = parted(thing)
    return len(rows) == 1 and is_head(rows[0][1], rows[0][2])


class Shell:
    """What is held, in a dict; each deed makes a new one."""

    def __init__(self):
        held = {"net": ((0, 1, 10, 10),), "times": (1, 1, 1), "steady": (0,), "wishes": {}, "asks": {}}
        self.held, self.past = begun(held), []

    def reply(self, head, text):
        word, *numbers = head.split(" ")
        numbers = [int(own) for own in numbers]
        try:
            if word == "undo":
                if not self.past:
                    raise CanNot()
                gone, self.held = self.past.pop()
                return gone
            if hasattr(self, "do_" + word):
                fresh = getattr(self, "do_" + word)(dict(self.held), numbers, text)
                self.past.append((word, self.held))
                self.held = fresh
                return "done"
            told = getattr(self, "tell_" + word)(self.held, *numbers)
            return " ".join(str(own) for own in told) or "-"
        except (BadText, CanNot, NoPlace, Unfit) as error:
            return f"refused {error.__class__.__name__}"

    def do_net(self, held, _, text):
        held.update(net=letters.net_read(text), steady=(), wishes={}, asks={})
        return begun(held)

    def do_times(self, held, _, text):
        held["times"] = letters.times_read(text)
        return begun(held)

    def do_steady(self, held, numbers, _):
        if set(numbers) - people(held):
            raise Unfit()
        held["steady"] = tuple(sorted(set(numbers)))
        return begun(held)

    def do_wishes(self, held, numbers, text):
        wishes, person = letters.wishes_read(text), numbers[0]
        for _, what in wishes:
            channels = what[1] if what[0] == "pay" else (what[1],)
            at = person
            for channel in channels:
                if channel >= len(held["net"]) or at not in held["net"][channel][:2]:
                    raise Unfit()
                at = sum(held["net"][channel][:2]) - at
        if person not in people(held):
            raise Unfit()
        held["wishes"] = {**held["wishes"], person: wishes}
        return begun(held)

    def do_ask(self, held, numbers, _):
        person, secret, amount = numbers
        if person not in people(held):
            raise Unfit()
        held["asks"] = {**held["asks"], person: held["asks"].get(person, ()) + ((secret, amount),)}
        return begun(held)

    def do_plan(self, held, _, text):
        for choice in letters.plan_read(text):
            held["world"] = worlds.next_world(held["world"], choice)
        return held

    def do_quiet(self, held, numbers, _):
        for _ in range(numbers[0]):
            held["world"] = worlds.next_world(held["world"], worlds.quiet(held["world"]))
        return held

    def do_swift(self, held, numbers, _):
        for _ in range(numbers[0]):
            held["world"] = worlds.next_world(held["world"], worlds.swift(held["world"]))
        return held

    def tell_moment(self, held):
        return [held["world"][3]]

    def tell_handed(self, held):
        return [len(held["world"][8])]

    def tell_sent(self, held):
        return [len(held["world"][7])]

    def tell_known(self, held):
        return held["world"][10]

    def tell_ledger(self, held, channel):
        if channel >= len(held["net"]):
            raise NoPlace(channel)
        there = held["world"][4][channel]
        state = settling.state_of(held["world"][4], held["times"], channel, held["world"][3])
        return [state] + ([there[0][1]] if there else [])

    def tell_ends(self, held):
        return ledger.ends_with(held["net"], held["world"][4], held["times"], held["world"][3])

    def tell_due(self, held, person):
        return [dues.due(held["world"], person)]

    def tell_fates(self, held, channel, secret):
        if channel >= len(held["net"]):
            raise NoPlace(channel)
        if not set(held["net"][channel][:2]) & set(held["steady"]):
            raise Unfit()
        pages = worlds.sealed_in(held["world"], channel)
        return payments.fates(pages, held["world"][4][channel], held["world"][3], ("image", secret))

    def tell_tally(self, held, person, secret):
        if person not in people(held):
            raise Unfit()
        return payments.tallies_of(held["world"], ("image", secret))[person]


def people(held):
    return {person for channel in held["net"] for person in channel[:2]}


def begun(held):
    every = range(max(people(held)) + 1)
    wishes, asks = [tuple(held[word].get(person, ()) for person in every) for word in ("wishes", "asks")]
    calm = ((0, 0, 0),) * len(every)
    held["world"] = worlds.begun_world(held["net"], held["times"], held["steady"], wishes, asks, calm)
    return held


def shell(text):
    """The replies; the line of the first one that is no request."""
    rows = parted(text)
    for line, head, inner in rows:
        if not is_head(head, inner):
            return line
    session = Shell()
    return [session.reply(head, inner) for _, head, inner in rows]
