"""Section 10 told a second time: a look of a steady person, step by step, over plain dicts and lists."""

import plain_rules as rules
from suredue.offers import book_at_look, taken, wanting, wanting_just


class Look:
    """What is held at a look, and what goes out."""

    def __init__(self, mind, moment, ledger):
        self.parts, self.m, self.ledger = mind, moment, ledger
        self.net, self.times, self.me = mind[:3]
        self.gap, self.go, self.show = mind[3]
        self.books = {book[0]: book for book in mind[4]}
        self.secrets, self.asks = set(mind[5]), mind[6]
        self.onward, self.pairs = list(mind[7]), list(mind[8])
        self.wishes, self.left = list(mind[9]), set(mind[10])
        self.fresh, self.deeds, self.letters = [], [], []

    def told(self):
        books = tuple(self.books[own] for own in sorted(self.books))
        mind = self.parts[:4] + (books, tuple(sorted(self.secrets)), self.asks, tuple(self.onward), tuple(self.pairs))
        return (mind + (tuple(self.wishes), tuple(sorted(self.left))), tuple(self.deeds), tuple(self.letters))

    def free(self):
        return [own for own in sorted(self.books) if self.ledger[own] is None and own not in self.left]

    def other(self, channel):
        return self.net[channel][1 - self.books[channel][1]]

    def pages(self, channel):
        return [page for page in self.books[channel][2:4] if page is not None]

    def inward(self, channel, page=None):
        page = self.books[channel][2] if page is None else page
        return [lock for lock in page[3] if lock[0] != self.books[channel][1]]

    def asked(self, lock):
        return [own for own in self.asks if own[0] == lock[2][1] and not own[1] > lock[1]] != []

    def knows(self, lock):
        return lock[2][1] in self.secrets or self.asked(lock)

    def bound(self, image):
        return any(self.bound_in(own, image) for own in self.books)

    def bound_in(self, channel, image):
        there, side = self.ledger[channel], self.books[channel][1]
        pages = self.pages(channel) + ([there[0]] if there else [])
        ends = [lock[3] for page in pages for lock in page[3] if lock[0] == side and lock[2] == image]
        if there and any(secret == image[1] and at <= end for secret, at in there[2] for end in ends):
            return True
        return any(self.m < rules.next_look(self.times, end) for end in ends)

    def lets(self, channel, amount, image):
        if channel not in self.free():
            return False
        book = self.books[channel]
        wanted = [change[1] for change in book[5] if change[0] == "add"]
        there = {lock[2]: lock for page in self.pages(channel) for lock in page[3]}
        images = list(there) + [lock[2] for lock in wanted]
        rest = min(page[2][book[1]] for page in self.pages(channel)) - sum(lock[1] for lock in wanted)
        return rest >= amount and len(images) < 8 and image not in images

    def want(self, channel, change):
        if change[0] != "add":
            last = self.pages(channel)[-1]
            if change[1] not in [lock[2] for lock in last[3]]:
                return
        self.books[channel] = wanting(self.books[channel], change)

    def close(self, channel):
        self.deeds.append(("close", self.books[channel][2]))
        self.left.add(channel)

    def a(self, box):
        for there in self.ledger:
            self.secrets.update(secret for secret, _ in (there[2] if there else ()))
        for sender, letter in box:
            word = letter[0]
            if word == "secret":
                self.secrets.add(letter[2])
                continue
            channel = letter[1] if word in ("turn", "pass") else letter[1][0]
            if channel not in self.books or self.other(channel) != sender:
                continue
            if word == "pass" and not [own for own in self.onward if own[0] == channel and own[1] == letter[2]]:
                self.onward.append(letter[1:])
            if word != "pass" and channel in self.free():
                self.books[channel], sent = taken(self.books[channel], letter)
                self.letters += [(sender, own) for own in sent]

    def b(self):
        for own in self.free():
            stay = [what for what in self.books[own][5] if what[0] == "add" and not what[1][3] <= self.m]
            self.books[own] = wanting_just(self.books[own], tuple(stay))
        ripe = [wish for wish in self.wishes if not wish[0] > self.m]
        self.wishes = [wish for wish in self.wishes if wish not in ripe]
        for _, what in ripe:
            if what[0] == "leave":
                if what[1] in self.free():
                    self.close(what[1])
                continue
            _, route, amount, image, ends = what
            if self.lets(route[0], amount, image) and self.m < ends[0]:
                self.want(route[0], ("add", (self.books[route[0]][1], amount, image, ends[0])))
                self.pairs.append((None, image, route[0], route[1:], ends[1:]))

    def c(self):
        for own in self.free():
            for lock in self.inward(own):
                self.answer(own, lock)

    def answer(self, channel, lock):
        image = lock[2]
        paired = [pair for pair in self.pairs if pair[0] == channel and pair[1] == image]
        told = [own for own in self.onward if own[0] == channel and own[1] == image]
        out, onward = None, None
        if told and told[0][2] and not paired:
            out = told[0][2][0]
            if out != channel and out in self.books and self.lets(out, lock[1], image):
                onward = (self.books[out][1], lock[1], image, told[0][3][0])
        keep = ([image[1]] if self.knows(lock) else [], [image] if self.bound(image) else [])
        what = rules.answer(self.times, self.m, self.gap, keep, lock, onward)
        if what == "secret":
            self.secrets.add(image[1])
            self.letters.append((self.other(channel), ("secret", channel, image[1])))
        if what == "pass":
            self.want(out, ("add", onward))
            self.fresh.append((channel, image, out, told[0][2][1:], told[0][3][1:]))
        if what == "drop" or what == "wait" and paired:
            self.want(channel, ("drop", image))

    def d(self):
        for own in self.free():
            for lock in self.books[own][2][3]:
                pairs = [pair for pair in self.pairs if pair[2] == own and pair[1] == lock[2]]
                mine = lock[0] == self.books[own][1] and lock[2][1] in self.secrets and lock[3] > self.m
                if mine and all(pair[0] is None or self.still_in(pair[0], lock[2]) for pair in pairs):
                    self.want(own, ("pay", lock[2]))

    def still_in(self, channel, image):
        last = rules.last_show if self.ledger[channel] else rules.last_close
        ends = [lock[3] for lock in self.inward(channel) if lock[2] == image]
        return any(last(self.times, end) is not None and self.m <= last(self.times, end) for end in ends)

    def e(self):
        for own in self.free():
            book, sent = book_at_look(self.books[own])
            mine = [pair for pair in self.fresh if pair[2] == own]
            images = [pair[1] for pair in mine]
            stay = [what for what in book[5] if what[0] == "add" and what[1][2] not in images]
            self.books[own] = wanting_just(book, tuple(stay))
            self.letters += [(self.other(own), letter) for letter in sent]
            offered = [lock[2] for lock in book[3][3]] if book[3] else []
            self.pairs += [pair for pair in mine if pair[1] in offered]
        for own in self.free():
            side = self.books[own][1]
            for _, image, out, route, ends in self.pairs:
                if out == own and route and rules.may_open(self.times, self.m, side, image, self.pages(own), False):
                    self.letters.append((self.other(own), ("pass", own, image, route, ends)))

    def f(self):
        for own in sorted(self.books):
            there = self.ledger[own]
            if there is not None:
                self.hand_in(own, *there)
            elif own not in self.left and any(self.must_close(lock) for lock in self.inward(own)):
                self.close(own)

    def must_close(self, lock):
        last = rules.last_close(self.times, lock[3])
        now = last is not None and self.m - self.go * self.times[1] == last
        return now and (self.knows(lock) or self.bound(lock[2]))

    def hand_in(self, channel, lying, since, shown):
        newest = self.books[channel][2]
        if newest[1] > lying[1] and self.m < since + self.times[2]:
            self.deeds.append(("close", newest))
        locks = self.inward(channel) + self.inward(channel, lying)
        for secret in sorted({lock[2][1] for lock in locks if self.shows(lock)} - {pair[0] for pair in shown}):
            self.deeds.append(("show", channel, secret))
            self.secrets.add(secret)

    def shows(self, lock):
        last, end = rules.last_show(self.times, lock[3]), lock[3]
        if self.show > 0:
            return self.knows(lock) and last is not None and last + self.show * self.times[1] <= self.m < end
        if lock[2][1] in self.secrets and end > self.m:
            return True
        return self.asked(lock) and last is not None and not self.m > last


def at_look(mind, moment, ledger, box):
    look = Look(mind, moment, ledger)
    look.a(box)
    look.b()
    look.c()
    look.d()
    look.e()
    look.f()
    return look.told()
