"""Sections 17 and 20 told a second time: runs kept along while changes are made, nets judged by lots of persons."""

import itertools

import plain
import plain_rules


class Story:
    """The sheets of a channel, and for each image what became of its locks, told while the changes are made."""

    def __init__(self, first):
        self.sheets, self.told = [first], {}

    def make(self, side, change):
        """Makes a change, if it can be done."""
        fresh = plain.changed(self.sheets[-1], side, change)
        if fresh is None:
            return False
        self.sheets.append(fresh)
        if change[0] == "add":
            self.told.setdefault(change[1][2], []).append([change[1], fresh[1], None, "open"])
        elif change[0] != "pass":
            self.told[change[1]][-1][2:] = [fresh[1], "paid" if change[0] == "pay" else "void"]
        return True

    def runs(self, image):
        return tuple((lock, first, behind) for lock, first, behind, _ in self.told.get(image, []))

    def fates(self, place, moment, image):
        found = []
        for lock, first, behind, went in self.told.get(image, []):
            if place is None:
                found.append(went)
                continue
            page, _, shown = place
            if lock in page[3] and first <= page[1] and (behind is None or page[1] < behind):
                opened = any(secret == image[1] and at <= lock[3] for secret, at in shown)
                found.append("paid" if opened else "void" if moment > lock[3] else "open")
            else:
                found.append("void" if page[1] < first else went)
        return tuple(found)

    def tally(self, place, moment, image):
        given = {0: 0, 1: 0}
        for (lock, _, _), fate in zip(self.runs(image), self.fates(place, moment, image)):
            given[lock[0]] += lock[1] * (fate == "paid")
        return (given[0], given[1])


def breaches(steady, wishes, asks, tallies, image):
    found = []
    for person in range(len(tallies)):
        own = sum(what[2] for _, what in wishes[person] if what[0] == "pay" and what[3] == image)
        if person in steady and tallies[person][1] - tallies[person][0] > own:
            found.append(("gives", person))
    askers = {person for person in range(len(asks)) for secret, _ in asks[person] if secret == image[1]}
    for payee in askers:
        if askers != {payee} or payee not in steady:
            continue
        least = sorted(amount for secret, amount in asks[payee] if secret == image[1])[0]
        others = sum(tallies[person][1] for person in steady if person != payee)
        if tallies[payee][0] < least and others > 0:
            found.append(("asks", payee))
    return tuple(found)


def held_out(net, pages, lot):
    return sum(
        pages[at][2][side]
        for at, channel in enumerate(net) for side in (0, 1) if channel[side] in lot and channel[1 - side] not in lot
    )


def lots(net, payer, payee):
    """All lots of persons of net with payer, without payee."""
    others = sorted({person for channel in net for person in channel[:2]} - {payer, payee})
    return [
        tuple(sorted((payer,) + more))
        for many in range(len(others) + 1) for more in itertools.combinations(others, many)
    ]


def most_paid(net, pages, payer, payee):
    """What the lot that holds least against the others holds: no row comes to more, and one does to that."""
    return min(held_out(net, pages, lot) for lot in lots(net, payer, payee))


def bars(net, pages, payer, payee):
    most = most_paid(net, pages, payer, payee)
    return [lot for lot in lots(net, payer, payee) if held_out(net, pages, lot) == most]


def behind(net, sums, payer, row):
    """The sums behind a row; None if it can't be made."""
    sums = [list(pair) for pair in sums]
    for route, amount in row:
        people = plain_rules.come_to(net, payer, route)
        for at, channel in enumerate(route):
            side = net[channel].index(people[at], 0, 2)
            sums[channel][side] -= amount
            sums[channel][1 - side] += amount
            if sums[channel][side] < 0:
                return None
    return tuple(tuple(pair) for pair in sums)


def are_payments(net, pages, payer, payee, thing):
    judges = ((lambda part: plain_rules.is_route(net, payer, part)), plain.from_one)
    if not plain.many_of(thing, lambda part: plain.row_of(part, *judges)):
        return False
    if any(plain_rules.come_to(net, payer, route)[-1] != payee for route, _ in thing):
        return False
    return behind(net, [page[2] for page in pages], payer, thing) is not None


def is_bar(net, pages, payer, payee, thing):
    if not plain.many_of(thing, plain.number) or any(not one < other for one, other in zip(thing, thing[1:])):
        return False
    return payer in thing and payee not in thing and held_out(net, pages, thing) == most_paid(net, pages, payer, payee)
