"""Sights: what a VIEW tells of sheets and locks, and the search for what they are worth at least."""

from suredue.clocks import show_by
from suredue.sheets import channels_of, is_opened, look_at, side_of
from suredue.values import ascending


class Sight:
    """A VIEW in its parts, and what it tells of the SHEETS and LOCKS of its PERSON. All is made of tuples."""

    def __init__(self, net, times, view):
        person, moment, ledger, held, given, secrets, coming = view
        self.times = times
        self.moment = moment
        self.ledger = ledger
        self.held = held
        self.given = given
        self.secrets = secrets
        self.coming = coming
        self.soon = look_at(times, moment + 1)
        self.own_sides = {channel: side_of(net, channel, person) for channel in channels_of(net, person)}

    def channels(self):
        """The list of the channels of the PERSON, ascending."""
        return sorted(self.own_sides)

    def last_close(self, channel):
        """The last moment at which a SHEET can come to lie over another one in a closed channel."""
        return self.ledger[channel][1] + self.times[2]

    def surely_comes(self, channel, sheet):
        """Whether the PERSON's own close with sheet comes to a closed channel in time, or still can be handed in."""
        last = self.last_close(channel)
        handed = any([deed == ("close", sheet) and by <= last for deed, by in self.coming])
        return handed or self.soon + self.times[0] <= last

    def floor(self, channel):
        """The lowest SHEET that can lie in a channel whose window is not over."""
        held, entry = self.held[channel], self.ledger[channel]
        if entry is None or (entry[0][1] < held[1] and self.surely_comes(channel, held)):
            return held
        return entry[0]

    def possible(self, channel):
        """The tuple of the SHEETS that can lie, by numbers."""
        entry = self.ledger[channel]
        if entry is not None and self.moment >= self.last_close(channel):
            return (entry[0],)
        least = self.floor(channel)
        return (least,) + tuple([page for page in self.given if page[0] == channel and page[1] > least[1]])

    def closing(self, channel):
        """The moment by which a channel surely is closed, if the PERSON wants it."""
        if self.ledger[channel] is not None:
            return self.ledger[channel][1]
        closes = [last for deed, last in self.coming if deed[0] == "close" and deed[1][0] == channel]
        return min(closes + [self.soon + self.times[0]])

    def parts_in(self, page):
        """The list of the Parts of page, which can lie."""
        return [Part(self, page[0], lock) for lock in page[3]]

    def sum_of(self, page):
        """The PERSON's own sum in page."""
        return page[2][self.own_sides[page[0]]]


class Part:
    """A LOCK of a SHEET that can lie in channel, and what a Sight tells of it."""

    def __init__(self, sight, channel, lock):
        entry = sight.ledger[channel]
        show = ("show", channel, lock[2][1])
        self.secret = lock[2][1]
        self.pair = (channel, lock[2])
        self.is_own = lock[0] == sight.own_sides[channel]
        self.amount = lock[1]
        self.end = lock[3]
        self.opened = entry is not None and is_opened(lock, entry[2])
        self.in_question = sight.moment < self.end and not self.opened
        coming = entry is not None and any([deed == show and by <= self.end for deed, by in sight.coming])
        self.shown = self.opened or coming
        # A show can be handed in from the first of these looks on, when the channel is closed, till the last one.
        self.first = max(sight.soon, sight.closing(channel))
        self.last = show_by(sight.times, self.end)

    def is_sure(self, moment):
        """Whether it is sure from moment, if it pays the PERSON."""
        return self.shown or (self.last is not None and max(moment, self.first) <= self.last)


def _amounts(parts):
    """What the amounts of parts come to."""
    return sum([part.amount for part in parts])


class Stake:
    """What hangs on one SECRET: Parts that the PERSON pays, and such that pay it."""

    def __init__(self, sight, secret):
        self.times = sight.times
        self.soon = sight.soon
        self.is_known = secret in sight.secrets
        self.own = []
        self.paying = []
        # The least worth, now and ahead of each Part that was put in.
        self.leasts = [0]

    def put_in(self, part):
        """Puts in one Part more; returns by how much the least worth grows."""
        row = self.own if part.is_own else self.paying
        row.append(part)
        self.leasts.append(self.worth(self.worst()))
        return self.leasts[-1] - self.leasts[-2]

    def take_out(self, part):
        """Takes out the Part that was put in last."""
        row = self.own if part.is_own else self.paying
        row.pop()
        self.leasts.pop()

    def sure(self, opened):
        """The list of the Parts that pay the PERSON for sure if of those that it pays just opened are opened."""
        if self.is_known or any([part.opened for part in opened]):
            return [part for part in self.paying if part.is_sure(self.soon)]
        if opened == []:
            return [part for part in self.paying if part.opened]
        # The SECRET is seen at the latest where the first of them ends.
        seen = look_at(self.times, min([part.end for part in opened]))
        return [part for part in self.paying if part.is_sure(seen)]

    def worth(self, opened):
        """The worth of all Parts if of those that the PERSON pays just opened are opened."""
        return _amounts(self.own) - _amounts(opened) + _amounts(self.sure(opened))

    def worst(self):
        """A list of Parts that the PERSON pays with which, opened, the worth is least."""
        fixed = [part for part in self.own if part.opened]
        question = [part for part in self.own if part.in_question]
        # Where some are opened, those that end later can be, too, and tell nothing more: only the first end counts.
        lots = [fixed]
        for least in ascending([part.end for part in question]):
            lots.append(fixed + [part for part in question if part.end >= least])
        worths = [self.worth(lot) for lot in lots]
        return lots[worths.index(min(worths))]


class Table:
    """SHEETS of some channels, one each, that can lie together, and the least worth of the CASES with them."""

    def __init__(self, sight):
        self.sight = sight
        self.pages = []
        self.made = {}
        self.stakes = {}
        self.least = 0

    def parts_of(self, page):
        """The list of the Parts of page, which are made but once."""
        if page not in self.made:
            self.made[page] = self.sight.parts_in(page)
        return self.made[page]

    def lay(self, page):
        """Lays page on the table."""
        self.pages.append(page)
        self.least += self.sight.sum_of(page)
        for part in self.parts_of(page):
            if part.secret not in self.stakes:
                self.stakes[part.secret] = Stake(self.sight, part.secret)
            self.least += self.stakes[part.secret].put_in(part)

    def take_up(self):
        """Takes up the page that was laid last."""
        page = self.pages.pop()
        self.least -= self.sight.sum_of(page)
        for part in self.parts_of(page):
            stake = self.stakes[part.secret]
            self.least -= stake.leasts[-1] - stake.leasts[-2]
            stake.take_out(part)

    def own_parts(self):
        """The list of all Parts that the PERSON pays."""
        return [part for stake in self.all_stakes() for part in stake.own]

    def all_stakes(self):
        """The list of all Stakes."""
        return list(self.stakes.values())


def laid(sight, pages):
    """The Table with pages."""
    table = Table(sight)
    for page in pages:
        table.lay(page)
    return table


class Search:
    """The search for the SHEETS of a worst CASE."""

    def __init__(self, sight):
        self.table = Table(sight)
        choices = [sight.possible(channel) for channel in sight.channels()]
        # What is found early bars more of what comes later: channels without a choice first, low worths first.
        self.choices = [
            sorted([(laid(sight, [page]).least, page) for page in pages]) for pages in sorted(choices, key=len)
        ]
        # SHEETS together are worth at least what they are worth each for itself.
        self.ahead = [sum([row[0][0] for row in self.choices[at:]]) for at in range(len(self.choices) + 1)]
        self.least = None
        self.pages = []
        self.go(0)

    def go(self, at):
        """Tries all that can lie in the channels from the at-th one on, with what lies on the table."""
        if self.least is not None and self.table.least + self.ahead[at] >= self.least:
            return
        if at == len(self.choices):
            self.least, self.pages = self.table.least, list(self.table.pages)
            return
        for _, page in self.choices[at]:
            self.table.lay(page)
            self.go(at + 1)
            self.table.take_up()
