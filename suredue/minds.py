"""Minds: what a steady person holds and knows, and what it does at a look."""

from suredue.clocks import close_by, show_by
from suredue.ledger import all_shown, was_shown
from suredue.letters import channel_of
from suredue.offers import MOST_LOCKS, begun_book, book_at_look, exposed, taken, wanting, wanting_just
from suredue.rules import answer, may_open
from suredue.sheets import channels_of, is_opened, lock_of, person_of, side_of
from suredue.values import ascending, frozen


def begun_mind(net, times, person, wishes, asks, cares):
    """The MIND of person at first."""
    books = [begun_book(net, channel, side_of(net, channel, person)) for channel in channels_of(net, person)]
    return frozen((net, times, person, cares, books, (), asks, (), (), wishes, ()))


class Look:
    """A look at a moment: the MIND in its parts, and what is handed in and sent."""

    def __init__(self, mind, moment, ledger):
        net, times, person, cares, books, secrets, asks, onward, pairs, wishes, left = mind
        self.net = net
        self.times = times
        self.person = person
        self.cares = cares
        self.books = {book[0]: book for book in books}
        self.secrets = list(secrets)
        self.asks = asks
        self.onward = list(onward)
        self.pairs = list(pairs)
        self.wishes = wishes
        self.left = list(left)
        self.moment = moment
        self.ledger = ledger
        # Pairs that are made if the LOCK that passes on comes to be offered.
        self.passing = []
        self.deeds = []
        self.letters = []

    def mind(self):
        """The MIND as it is now."""
        return (
            self.net,
            self.times,
            self.person,
            self.cares,
            tuple([self.books[channel] for channel in self.own_channels()]),
            ascending(self.secrets),
            self.asks,
            tuple(self.onward),
            tuple(self.pairs),
            self.wishes,
            ascending(self.left),
        )

    def own_channels(self):
        """The list of the channels of the PERSON, ascending."""
        return sorted(self.books)

    def is_free(self, channel):
        """Whether channel is an own one, open and not left."""
        return channel in self.books and self.ledger[channel] is None and channel not in self.left

    def free_channels(self):
        """The list of the free channels, ascending."""
        return [channel for channel in self.own_channels() if self.is_free(channel)]

    def newest(self, channel):
        """The newest SHEET held of channel."""
        return self.books[channel][2]

    def is_own(self, channel, lock):
        """Whether lock, of a SHEET of channel, is one that the PERSON pays."""
        return lock[0] == self.books[channel][1]

    def paying_locks(self, channel):
        """The list of the LOCKS that pay the PERSON in the newest SHEET held of channel."""
        return [lock for lock in self.newest(channel)[3] if not self.is_own(channel, lock)]

    def other_person(self, channel):
        """The other PERSON of channel."""
        return person_of(self.net, channel, 1 - self.books[channel][1])

    def asks_for(self, lock):
        """Whether the secret of lock is asked for with no greater amount."""
        return any([secret == lock[2][1] and amount <= lock[1] for secret, amount in self.asks])

    def knows(self, lock):
        """Whether the PERSON knows lock."""
        return lock[2][1] in self.secrets or self.asks_for(lock)

    def is_bound_in(self, channel, image):
        """Whether an own LOCK of image may be opened in channel, or was."""
        side, pages, entry = self.books[channel][1], exposed(self.books[channel]), self.ledger[channel]
        if entry is None:
            return may_open(self.times, self.moment, side, image, pages, False)
        sheets = pages + (entry[0],)
        locks = [lock_of(page, image) for page in sheets]
        opened = any([lock is not None and lock[0] == side and is_opened(lock, entry[2]) for lock in locks])
        return may_open(self.times, self.moment, side, image, sheets, opened)

    def is_bound(self, image):
        """Whether image is bound."""
        return any([self.is_bound_in(channel, image) for channel in self.own_channels()])

    def lets(self, channel, lock):
        """Whether channel lets lock, which the PERSON would pay."""
        if not self.is_free(channel):
            return False
        book = self.books[channel]
        pages, wanted = exposed(book), [change[1] for change in book[5] if change[0] == "add"]
        if any([lock_of(page, lock[2]) is not None for page in pages]) or lock[2] in [other[2] for other in wanted]:
            return False
        # Of two exposed SHEETS one has all LOCKS of the other one.
        many = max([len(page[3]) for page in pages]) + len(wanted)
        least = min([page[2][book[1]] for page in pages]) - sum([other[1] for other in wanted])
        return many < MOST_LOCKS and least >= lock[1]

    def learn(self, secret):
        """Has secret among the secrets."""
        if secret not in self.secrets:
            self.secrets.append(secret)

    def send(self, channel, letters):
        """Sends letters to the other PERSON of channel."""
        self.letters.extend([(self.other_person(channel), letter) for letter in letters])

    def want(self, channel, change):
        """Wants change in channel last."""
        self.books[channel] = wanting(self.books[channel], change)

    def want_gone(self, channel, word, image):
        """Wants a LOCK to go, by "drop" or "pay", unless the last SHEET is without it."""
        if lock_of(exposed(self.books[channel])[-1], image) is not None:
            self.want(channel, (word, image))

    def close(self, channel):
        """Hands in the close of channel, and leaves it."""
        self.deeds.append(("close", self.newest(channel)))
        self.left.append(channel)

    def read(self, box):
        """Takes what has come: (a)."""
        for secret in all_shown(self.ledger):
            self.learn(secret)
        for sender, letter in box:
            self.read_letter(sender, letter)

    def read_letter(self, sender, letter):
        """Takes one LETTER."""
        channel = channel_of(letter)
        if letter[0] == "secret":
            self.learn(letter[2])
        elif channel not in self.books or sender != self.other_person(channel):
            return
        elif letter[0] == "pass":
            if letter[1:3] not in [told[:2] for told in self.onward]:
                self.onward.append(letter[1:])
        elif self.is_free(channel):
            book, answers = taken(self.books[channel], letter)
            self.books[channel] = book
            self.send(channel, answers)

    def begin_wishes(self):
        """Begins what is wished: (b)."""
        for channel in self.free_channels():
            book = self.books[channel]
            stay = [change for change in book[5] if change[0] == "add" and change[1][3] > self.moment]
            self.books[channel] = wanting_just(book, stay)
        begun = [wish[1] for wish in self.wishes if wish[0] <= self.moment]
        self.wishes = tuple([wish for wish in self.wishes if wish[0] > self.moment])
        for what in begun:
            if what[0] == "pay":
                self.begin_payment(what)
            elif self.is_free(what[1]):
                self.close(what[1])

    def begin_payment(self, what):
        """Wants the first LOCK of a payment, if its channel lets it."""
        route, amount, image, ends = what[1:]
        channel = route[0]
        if not self.is_free(channel) or self.moment >= ends[0]:
            return
        lock = (self.books[channel][1], amount, image, ends[0])
        if self.lets(channel, lock):
            self.want(channel, ("add", lock))
            self.pairs.append((None, image, channel, route[1:], ends[1:]))

    def answer_locks(self):
        """Answers all LOCKS that pay the PERSON: (c)."""
        for channel in self.free_channels():
            for lock in self.paying_locks(channel):
                self.answer_lock(channel, lock)

    def answer_lock(self, channel, lock):
        """Answers one LOCK of a free channel."""
        image = lock[2]
        paired = (channel, image) in [pair[:2] for pair in self.pairs]
        out, onward = (None, None) if paired else self.lock_onward(channel, lock)
        keep = ((image[1],) if self.knows(lock) else (), (image,) if self.is_bound(image) else ())
        told = answer(self.times, self.moment, self.cares[0], keep, lock, onward)
        if told == "secret":
            self.learn(image[1])
            self.send(channel, [("secret", channel, image[1])])
        elif told == "pass":
            self.want(out, ("add", onward))
            route, ends = self.told_onward(channel, image)
            self.passing.append((channel, image, out, route[1:], ends[1:]))
        elif told == "drop" or (told == "wait" and paired):
            self.want_gone(channel, "drop", image)

    def told_onward(self, channel, image):
        """The pair (route, ends) that a "pass" LETTER told of this LOCK; two empty ones if none did."""
        for told in self.onward:
            if told[:2] == (channel, image):
                return told[2:]
        return ((), ())

    def lock_onward(self, channel, lock):
        """The channel and the LOCK by which lock would be passed on; None for both if there is none."""
        route, ends = self.told_onward(channel, lock[2])
        if route == () or route[0] == channel or route[0] not in self.books:
            return (None, None)
        onward = (self.books[route[0]][1], lock[1], lock[2], ends[0])
        return (route[0], onward) if self.lets(route[0], onward) else (None, None)

    def pay_locks(self):
        """Wants to pay own LOCKS whose secret is out: (d)."""
        for channel in self.free_channels():
            for lock in self.newest(channel)[3]:
                if self.is_own(channel, lock) and self.can_pay(channel, lock):
                    self.want_gone(channel, "pay", lock[2])

    def can_pay(self, channel, lock):
        """Whether an own LOCK is paid without a loss."""
        if lock[2][1] not in self.secrets or lock[3] <= self.moment:
            return False
        pairs = [pair for pair in self.pairs if pair[1] == lock[2] and pair[2] == channel]
        return all([pair[0] is None or self.gets_in(pair[0], lock[2]) for pair in pairs])

    def gets_in(self, channel, image):
        """Whether a LOCK of image surely can still be opened in channel, where it pays the PERSON."""
        for lock in self.paying_locks(channel):
            if lock[2] == image:
                is_open = self.ledger[channel] is None
                last = close_by(self.times, lock[3]) if is_open else show_by(self.times, lock[3])
                return last is not None and self.moment <= last
        return False

    def offer_changes(self):
        """Offers what is wanted, and tells how what passes on goes on: (e)."""
        for channel in self.free_channels():
            book, letters = book_at_look(self.books[channel])
            passing = [pair for pair in self.passing if pair[2] == channel]
            images = [pair[1] for pair in passing]
            stay = [change for change in book[5] if change[0] == "add" and change[1][2] not in images]
            self.books[channel] = wanting_just(book, stay)
            self.send(channel, letters)
            if book[3] is not None:
                self.pairs.extend([pair for pair in passing if lock_of(book[3], pair[1]) is not None])
        for channel in self.free_channels():
            side, pages = self.books[channel][1], exposed(self.books[channel])
            for _, image, out, route, ends in self.pairs:
                if out != channel or route == ():
                    continue
                if may_open(self.times, self.moment, side, image, pages, False):
                    self.send(channel, [("pass", channel, image, route, ends)])

    def go_to_ledger(self):
        """Hands in what must come to the ledger: (f)."""
        for channel in self.own_channels():
            if self.is_free(channel):
                if any([self.must_close_for(lock) for lock in self.paying_locks(channel)]):
                    self.close(channel)
            elif self.ledger[channel] is not None:
                self.hand_in(channel)

    def must_close_for(self, lock):
        """Whether it is the look to close a channel for lock."""
        last = close_by(self.times, lock[3])
        if last is None or self.moment != last + self.cares[1] * self.times[1]:
            return False
        return self.knows(lock) or self.is_bound(lock[2])

    def hand_in(self, channel):
        """Hands in the newest SHEET and the SECRETS for a channel that is closed."""
        sheet, since, shown = self.ledger[channel]
        newest = self.newest(channel)
        if sheet[1] < newest[1] and self.moment < since + self.times[2]:
            self.deeds.append(("close", newest))
        locks = [lock for lock in newest[3] + sheet[3] if not self.is_own(channel, lock) and self.shows(lock)]
        for secret in ascending([lock[2][1] for lock in locks]):
            if not was_shown(shown, secret):
                self.deeds.append(("show", channel, secret))
                self.learn(secret)

    def shows(self, lock):
        """Whether the secret of lock, which pays the PERSON, is shown now."""
        last = show_by(self.times, lock[3])
        if self.cares[2] > 0:
            late = last is not None and last + self.cares[2] * self.times[1] <= self.moment
            return late and self.moment < lock[3] and self.knows(lock)
        if lock[2][1] in self.secrets and self.moment < lock[3]:
            return True
        return self.asks_for(lock) and last is not None and self.moment <= last


def at_look(mind, moment, ledger, box):
    """The triple of the MIND behind a look, of its DEEDS and of its pairs (to, letter)."""
    look = Look(frozen(mind), moment, frozen(ledger))
    look.read(frozen(box))
    look.begin_wishes()
    look.answer_locks()
    look.pay_locks()
    look.offer_changes()
    look.go_to_ledger()
    return (look.mind(), tuple(look.deeds), tuple(look.letters))


def held_by(mind):
    """For each channel the newest SHEET held; None if the PERSON is not in it."""
    held = {book[0]: frozen(book[2]) for book in mind[4]}
    return tuple([held.get(channel) for channel in range(len(mind[0]))])


def given_by(mind):
    """The set of the exposed SHEETS."""
    return ascending([page for book in mind[4] for page in exposed(book)])


def known_by(mind):
    """The set of the SECRETS that are seen, heard or let go."""
    return tuple(mind[5])
