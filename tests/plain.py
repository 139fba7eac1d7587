"""The sections 3 to 5 and 18 told a second time, as plainly as can be: what the tests compare with."""


def number(thing, least=0, most=None):
    return thing.__class__ is int and thing >= least and (most is None or thing <= most)


def row_of(thing, *judges):
    """Whether thing is a tuple of just so many parts, each as its judge wants it."""
    if thing.__class__ is not tuple or len(thing) != len(judges):
        return False
    return all(judge(part) for judge, part in zip(judges, thing))


def many_of(thing, judge):
    return thing.__class__ is tuple and all(judge(part) for part in thing)


def word(wanted):
    return lambda thing: thing.__class__ is str and thing == wanted


def from_one(thing):
    return number(thing, 1)


def side(thing):
    return number(thing, 0, 1)


def times(thing):
    return row_of(thing, from_one, from_one, number)


def channel(thing):
    return row_of(thing, number, number, number, number) and thing[0] != thing[1]


def net(thing):
    return many_of(thing, channel) and thing != ()


def image(thing):
    return row_of(thing, word("image"), number)


def lock(thing):
    return row_of(thing, side, from_one, image, number)


def sheet(of, thing):
    if not row_of(thing, number, number, lambda part: row_of(part, number, number), lambda part: many_of(part, lock)):
        return False
    place, age, sums, locks = thing
    if place not in range(len(of)):
        return False
    for at, one in enumerate(locks):
        for other in locks[:at]:
            if one[2] == other[2]:
                return False
    worth = sums[0] + sums[1]
    for one in locks:
        worth += one[1]
    if worth != of[place][2] + of[place][3]:
        return False
    return age > 0 or (sums == (of[place][2], of[place][3]) and locks == ())


def deed(of, thing):
    return (
        row_of(thing, word("close"), lambda part: sheet(of, part))
        or row_of(thing, word("show"), lambda part: number(part, 0, len(of) - 1), number)
    )


def entry(of, place, thing):
    if thing is None:
        return True
    if not row_of(thing, lambda part: sheet(of, part), number, lambda part: True) or thing[0][0] != place:
        return False
    shown = thing[2]
    if not many_of(shown, lambda part: row_of(part, number, number)):
        return False
    for at, (secret, moment) in enumerate(shown):
        if moment < thing[1] or any(moment < earlier for _, earlier in shown[:at]):
            return False
        if any(secret == former for former, _ in shown[:at]):
            return False
    return True


def ledger(of, thing):
    return (
        thing.__class__ is tuple
        and len(thing) == len(of)
        and all(entry(of, place, thing[place]) for place in range(len(of)))
    )


class Register:
    """What the ledger tells of one channel, deed by deed."""

    def __init__(self, of, place, wait, sealed, there=None):
        self.of, self.place, self.wait, self.sealed = of, place, wait, sealed
        self.sheet, self.since, self.shown = (None, None, {}) if there is None else (there[0], there[1], dict(there[2]))

    def is_sealed(self, page):
        return page in self.sealed or page == (self.place, 0, self.of[self.place][2:], ())

    def take(self, what, moment):
        """Takes a deed, and tells whether it did something."""
        if what[0] == "show":
            if what[1] != self.place or self.sheet is None or what[2] in self.shown:
                return False
            self.shown[what[2]] = moment
            return True
        page = what[1]
        if page[0] != self.place or not self.is_sealed(page):
            return False
        if self.sheet is None:
            self.sheet, self.since = page, moment
            return True
        if self.sheet[1] < page[1] and moment <= self.since + self.wait:
            self.sheet = page
            return True
        return False

    def told(self):
        return None if self.sheet is None else (self.sheet, self.since, tuple(self.shown.items()))

    def opened(self, one):
        return one[2][1] in self.shown and self.shown[one[2][1]] <= one[3]

    def settled(self, moment):
        if self.sheet is None or moment <= self.since + self.wait:
            return False
        return all(self.opened(one) or moment > one[3] for one in self.sheet[3])

    def sums(self):
        worth = list(self.sheet[2])
        for one in self.sheet[3]:
            taker = 1 - one[0] if self.opened(one) else one[0]
            worth[taker] += one[1]
        return tuple(worth)


def registers(of, limits, sealed, there):
    return [Register(of, place, limits[2], sealed, there[place]) for place in range(len(of))]


def behind(of, there, limits, moment, row, sealed):
    """The LEDGER behind row."""
    books = registers(of, limits, sealed, there)
    for what in row:
        for book in books:
            book.take(what, moment)
    return tuple(book.told() for book in books)


def told_key(there):
    """What of a closed channel's place in a LEDGER counts: the order of what was shown does not."""
    return (there[0], there[1], tuple(sorted(there[2])))


def all_that_comes(of, place, there, limits, moment, sealed, secrets, last):
    """For each moment behind moment, up to last, all that the ledger can tell of a closed channel."""
    deeds = [("close", page) for page in sealed if page[0] == place]
    deeds += [("close", (place, 0, of[place][2:], ()))]
    deeds += [("show", place, secret) for secret in secrets]
    now, along = {told_key(there)}, {}
    for own in range(moment + 1, last + 1):
        todo = list(now)
        # A ROW is any deeds one after the other, so all is gone through that deeds of one moment lead to.
        while todo:
            state = todo.pop()
            for what in deeds:
                book = Register(of, place, limits[2], sealed, state)
                if book.take(what, own):
                    fresh = told_key(book.told())
                    if fresh not in now:
                        now.add(fresh)
                        todo.append(fresh)
        along[own] = set(now)
    return along


def far_end(there, limits, sealed, place):
    """A moment behind which nothing can change for a closed channel."""
    ends = [one[3] for page in (there[0],) + tuple(sealed) if page[0] == place for one in page[3]]
    return max([there[1] + limits[2]] + ends) + 2


def place(of, thing):
    return number(thing, 0, len(of) - 1)


def letter(of, thing):
    """Whether thing is a LETTER, word by word."""
    at_sheet, at_place = (lambda part: sheet(of, part)), (lambda part: place(of, part))
    if row_of(thing, word("pass"), at_place, image, lambda part: True, lambda part: True):
        route, ends = thing[3:]
        return many_of(route, at_place) and many_of(ends, number) and len(route) == len(ends)
    return (
        row_of(thing, word("offer"), at_sheet)
        or row_of(thing, word("agree"), at_sheet)
        or row_of(thing, word("turn"), at_place, number)
        or row_of(thing, word("secret"), at_place, number)
    )


def change(thing):
    return (
        row_of(thing, word("pass"))
        or row_of(thing, word("add"), lock)
        or row_of(thing, word("pay"), image)
        or row_of(thing, word("drop"), image)
    )


def changed(page, who, what):
    """The SHEET that comes of page by the CHANGE what of SIDE who; None if it can't be done."""
    place_of, age, sums, locks = page
    sums, locks = list(sums), list(locks)
    if what[0] == "add":
        if what[1][0] != who or any(one[2] == what[1][2] for one in locks):
            return None
        sums[who] -= what[1][1]
        locks.append(what[1])
        if sums[who] < 0 or len(locks) > 8:
            return None
    if what[0] in ("pay", "drop"):
        payer = who if what[0] == "pay" else 1 - who
        gone = [one for one in locks if one[2] == what[1] and one[0] == payer]
        if not gone:
            return None
        locks.remove(gone[0])
        # Whoever it is that offers, the amount is the other one's then.
        sums[1 - who] += gone[0][1]
    return (place_of, age + 1, tuple(sums), tuple(locks))


def all_changes(page, other):
    """All CHANGES that could lead from page to other."""
    images = [one[2] for one in page[3] + other[3]]
    return (
        [("pass",)]
        + [("add", one) for one in other[3]]
        + [(what, one) for what in ("pay", "drop") for one in images]
    )


def book(of, thing):
    """Whether thing is a BOOK."""
    whatever = (lambda part: True)
    judges = (lambda part: place(of, part), side, lambda part: sheet(of, part), whatever, whatever, whatever)
    if not row_of(thing, *judges) or not many_of(thing[5], change) or thing[4] not in (True, False):
        return False
    channel_of, who, newest, offered, asked, _ = thing
    if newest[0] != channel_of or asked.__class__ is not bool:
        return False
    turn = (newest[1] + 1) % 2 == who
    if asked and not turn or asked and offered is not None:
        return False
    if offered is None:
        return True
    return turn and sheet(of, offered) and offered in [changed(newest, who, what) for what in all_changes(newest, offered)]


def watcher(thing):
    return row_of(thing, from_one, number, from_one) and thing[1] < thing[0]


def last_coming(one, moment):
    """The last moment at which what a WATCHER hands in at its next look can come, by counting on."""
    look = one[1]
    while look < moment:
        look += one[0]
    return look + one[2]


def late_pair(watchers, wait, thing):
    if not watchers or not row_of(thing, from_one, lambda part: many_of(part, from_one)) or thing[0] > 10 ** 5:
        return False
    lasts = tuple(last_coming(one, thing[0]) for one in watchers)
    return thing[1] == lasts and all(last > thing[0] + wait for last in lasts)
