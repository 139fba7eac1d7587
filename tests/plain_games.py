"""Section 16 told a second time: games with a plain ledger, and all that can come of them, gone through from behind."""

import plain
import plain_rules

# A channel of two each; all SHEETS are sealed, those of a game being told apart by their numbers.
NET = ((0, 1, 0, 9), (0, 1, 0, 9))
PLACES = ("in", "out")


def is_game(thing):
    if plain.row_of(thing, plain.word("channel"), plain.times, lambda part: plain.many_of(part, plain.number), plain.number):
        return len(thing[2]) > 0
    judges = (plain.word("middle"), plain.times, plain.from_one, plain.number, plain.number, plain.number)
    return plain.row_of(thing, *judges)


def places(game):
    return PLACES if game[0] == "middle" else ("in",)


def newest(game):
    return 1 if game[0] == "middle" else len(game[2]) - 1


def page(place, number):
    return (PLACES.index(place), number, (0, 9), ())


class Table:
    """A game at a moment, behind some of the events of its row: the ledger as [5] tells it, and what is on the way."""

    def __init__(self, game):
        self.game, self.moment = game, 0
        self.delay, self.look, self.wait = game[1]
        sealed = [page(place, number) for place in PLACES for number in range(newest(game) + 1)]
        self.books = {place: plain.Register(NET, PLACES.index(place), self.wait, sealed) for place in places(game)}
        self.coming = {}
        self.see()

    def copy(self):
        other = Table.__new__(Table)
        other.__dict__.update(self.__dict__)
        other.books = {}
        for place, book in self.books.items():
            other.books[place] = plain.Register(book.of, book.place, book.wait, book.sealed, book.told())
        other.coming = dict(self.coming)
        return other

    def key(self):
        return (self.moment, tuple(book.told() for book in self.books.values()), tuple(sorted(self.coming.items())))

    def shown_at(self):
        """The moments at which the secret was shown, by channel."""
        return {place: book.shown[7] for place, book in self.books.items() if 7 in book.shown}

    def number(self, place):
        sheet = self.books[place].sheet
        return None if sheet is None else sheet[1]

    def can(self, event):
        """Whether an event can come now."""
        place = (lambda part: part.__class__ is str and part in self.books)
        if plain.row_of(event, plain.word("close"), place, plain.number):
            return event[2] <= newest(self.game) and not self.moment + self.wait > self.game[-1]
        if plain.row_of(event, plain.word("show"), place):
            return self.game[0] == "middle"
        return plain.row_of(event, plain.word("late"), lambda part: part.__class__ is str and part in self.coming)

    def take(self, event):
        what = event[1]
        if event[0] == "late":
            del self.coming[what]
            event = ("show", "in") if what == "show" else ("close", what, newest(self.game))
        if event[0] == "show":
            for book in self.books.values():
                book.take(("show", PLACES.index(event[1]), 7), self.moment)
        else:
            self.books[event[1]].take(("close", page(event[1], event[2])), self.moment)

    def hand(self, what):
        self.coming.setdefault(what, self.moment + self.delay)

    def see(self):
        """The look of the steady one, if it is one."""
        if self.moment % self.look:
            return
        shown = self.shown_at()
        for place, book in self.books.items():
            if book.sheet is not None and book.sheet[1] < newest(self.game) and self.moment < book.since + self.wait:
                self.hand(place)
        if self.game[0] == "channel":
            return
        in_end, out_end = self.game[3:5]
        last = plain_rules.last_close(self.game[1], in_end)
        if self.books["in"].sheet is None:
            if (last is None or last <= self.moment) and (shown or self.moment < plain_rules.next_look(self.game[1], out_end)):
                self.hand("in")
        elif shown and "in" not in shown and self.moment < in_end:
            self.hand("show")

    def must(self):
        return [what for what, last in self.coming.items() if last == self.moment]

    def end(self):
        if self.game[0] == "channel":
            number = self.number("in")
            return self.game[2][newest(self.game) if number is None else number]
        amount, in_end, out_end = self.game[2:5]
        shown = self.shown_at()
        got = amount if self.number("in") == 1 and "in" in shown and shown["in"] <= in_end else 0
        lost = amount if self.number("out") == 1 and "out" in shown and shown["out"] <= out_end else 0
        return got + amount - lost

    def events(self):
        """All events that can come now."""
        found = [("close", place, number) for place in self.books for number in range(newest(self.game) + 1)]
        found += [("show", place) for place in self.books] + [("late", what) for what in ("in", "out", "show")]
        return [event for event in found if self.can(event)]


def behind_plan(game, thing):
    """The Table behind a plan; None if it is none."""
    if not plain.many_of(thing, lambda row: row.__class__ is tuple) or len(thing) != game[-1]:
        return None
    table = Table(game)
    for row in thing:
        table.moment += 1
        for event in row:
            if not table.can(event):
                return None
            table.take(event)
        if table.must():
            return None
        table.see()
    return table


def least(game):
    """The least end, by going through all that can come, event by event."""
    return least_behind(Table(game), {})


def least_behind(table, told):
    """The least end of all that can come behind the row of a moment."""
    if table.moment == table.game[-1]:
        return table.end()
    if table.key() not in told:
        after = table.copy()
        after.moment += 1
        told[table.key()] = min(least_behind(one, told) for one in rows_behind(after))
    return told[table.key()]


def rows_behind(table):
    """The tables behind all rows that can come now, each but once."""
    seen, todo, found = {table.key()}, [table], {}
    while todo:
        now = todo.pop()
        for event in now.events():
            after = now.copy()
            after.take(event)
            if after.key() not in seen:
                seen.add(after.key())
                todo.append(after)
        if not now.must():
            now = now.copy()
            now.see()
            found[now.key()] = now
    return list(found.values())
