"""Section 12 told a second time: a run of a world, moment by moment, and what is a choice in it."""

import plain
import plain_minds
from suredue.minds import begun_mind


def first_page(net, channel):
    return (channel, 0, net[channel][2:], ())


def is_sealed(world, page):
    net, steady, signed = world[0], world[2], world[9]
    wanted = [person for person in net[page[0]][:2] if person in steady]
    return page == first_page(net, page[0]) or not [person for person in wanted if (person, page) not in signed]


def can_do(world, deed):
    if deed[0] == "show":
        return deed[2] in world[10]
    return is_sealed(world, deed[1])


def forced(world):
    """The places of what can come no later than at the next moment."""
    return tuple(place for place, (_, _, last) in enumerate(world[8]) if not last > world[3] + 1)


def is_choice(world, thing):
    if not plain.row_of(thing, lambda part: plain.many_of(part, lambda own: is_deed_of(world, own)), lambda part: True):
        return False
    late = [part[1] for part in thing[0] if part[0] == "late"]
    if any(late.count(place) > 1 for place in late) or any(place not in late for place in forced(world)):
        return False
    return plain.many_of(thing[1], lambda own: is_letter_of(world, own))


def is_deed_of(world, thing):
    handed = len(world[8])
    if plain.row_of(thing, plain.word("late"), lambda part: plain.number(part, 0, handed - 1)):
        return True
    return plain.row_of(thing, plain.word("own"), lambda part: plain.deed(world[0], part)) and can_do(world, thing[1])


def is_letter_of(world, thing):
    net, steady, sent = world[0], world[2], len(world[7])
    if plain.row_of(thing, plain.word("sent"), lambda part: plain.number(part, 0, sent - 1)):
        return True
    judges = (plain.word("own"), plain.number, plain.number, lambda part: plain.letter(net, part))
    if not plain.row_of(thing, *judges):
        return False
    _, sender, receiver, letter = thing
    if not any(sender in channel[:2] for channel in net) or sender in steady or receiver not in steady:
        return False
    if letter[0] in ("offer", "agree"):
        return sender in net[letter[1][0]][:2] and receiver in net[letter[1][0]][:2]
    return letter[0] != "secret" or letter[2] in world[10]


def view(world, mind):
    """The VIEW of the steady person whose mind this is."""
    person, books = mind[2], {book[0]: book for book in mind[4]}
    held = tuple(books[channel][2] if channel in books else None for channel in range(len(world[0])))
    given = {page for book in books.values() for page in book[2:4] if page is not None}
    coming = tuple((deed, last) for own, deed, last in world[8] if own == person)
    return (person, world[3], world[4], held, tuple(sorted(given)), mind[5], coming)


class Run:
    """A world in plain dicts and lists."""

    def __init__(self, net, times, steady, wishes, asks, cares):
        self.net, self.times, self.steady, self.moment = net, times, steady, 0
        self.ledger = (None,) * len(net)
        self.minds = {own: begun_mind(net, times, own, wishes[own], asks[own], cares[own]) for own in steady}
        self.boxes = {own: [] for own in steady}
        # A dict keeps what was put in first ahead, and what is put in again at its place.
        self.sent, self.handed, self.signed = {}, [], set()
        rest = [own for own in range(len(asks)) if own not in steady]
        self.known = {secret for own in rest for secret, _ in asks[own]}
        self.look()

    @classmethod
    def at(cls, world):
        """The run that goes on from a world."""
        run = cls.__new__(cls)
        run.net, run.times, run.steady, run.moment, run.ledger = world[:5]
        run.minds = dict(zip(run.steady, world[5]))
        run.boxes = {own: list(box) for own, box in zip(run.steady, world[6])}
        run.sent = {part[:3]: part[3] for part in world[7]}
        run.handed, run.signed, run.known = list(world[8]), set(world[9]), set(world[10])
        return run

    def world(self):
        minds = tuple(self.minds[own] for own in self.steady)
        boxes = tuple(tuple(self.boxes[own]) for own in self.steady)
        sent = tuple(key + (when,) for key, when in self.sent.items())
        shown = {secret for there in self.ledger if there for secret, _ in there[2]}
        known = tuple(sorted(self.known | shown))
        there = (self.net, self.times, self.steady, self.moment, self.ledger, minds, boxes, sent)
        return there + (tuple(self.handed), tuple(sorted(self.signed)), known)

    def look(self):
        for own in self.steady:
            told = plain_minds.at_look(self.minds[own], self.moment, self.ledger, tuple(self.boxes[own]))
            self.minds[own], deeds, letters = told
            self.boxes[own] = []
            self.handed += [(own, deed, self.moment + self.times[0]) for deed in deeds]
            for receiver, letter in letters:
                if letter[0] in ("offer", "agree"):
                    self.signed.add((own, letter[1]))
                if letter[0] == "secret":
                    self.known.add(letter[2])
                if receiver in self.steady:
                    self.sent[(own, receiver, letter)] = self.moment

    def step(self, choice):
        before = self.world()
        row = [before[8][part[1]][1] if part[0] == "late" else part[1] for part in choice[0]]
        late = [part[1] for part in choice[0] if part[0] == "late"]
        sealed = [deed[1] for deed in row if deed[0] == "close" and is_sealed(before, deed[1])]
        self.moment += 1
        self.ledger = plain.behind(self.net, self.ledger, self.times, self.moment, row, sealed)
        self.handed = [own for place, own in enumerate(self.handed) if place not in late]
        for part in choice[1]:
            sender, receiver, letter = before[7][part[1]][:3] if part[0] == "sent" else part[1:]
            self.boxes[receiver].append((sender, letter))
        if self.moment % self.times[1] == 0:
            self.look()
