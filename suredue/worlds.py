"""Worlds: all that there is at a moment, what the rest can choose, and what comes next."""

from suredue.errors import Unfit
from suredue.ledger import all_shown, begun_ledger, comes, is_deed, persons
from suredue.letters import channel_of, is_letter
from suredue.minds import at_look, begun_mind, given_by, held_by, known_by
from suredue.sheets import first_sheet
from suredue.values import ascending, frozen, is_below, is_number, is_tuple_of

_OF_SHEETS = ("offer", "agree")


def _is_sealed(world, sheet):
    """Whether sheet, of a channel of the WORLD, is sealed. All is made of tuples."""
    net, steady, signed = world[0], world[2], world[9]
    if sheet == first_sheet(net, sheet[0]):
        return True
    # The rest seals what it likes.
    return all([(person, sheet) in signed for person in net[sheet[0]][:2] if person in steady])


def _can_do(world, deed):
    """can_do, where all is made of tuples."""
    return _is_sealed(world, deed[1]) if deed[0] == "close" else deed[2] in world[10]


def can_do(world, deed):
    """Whether the rest can do deed."""
    return _can_do(frozen(world), frozen(deed))


def forced(world):
    """The set of the places in handed that must come next."""
    handed = world[8]
    return tuple([place for place in range(len(handed)) if handed[place][2] <= world[3] + 1])


def _is_of_row(world, thing):
    """Whether thing can stand in the row of a CHOICE."""
    if not is_tuple_of(thing, 2):
        return False
    if thing[0] == "late":
        return is_below(thing[1], len(world[8]))
    return thing[0] == "own" and is_deed(world[0], thing[1]) and _can_do(world, thing[1])


def _is_row(world, thing):
    """Whether thing can be the row of a CHOICE."""
    if not isinstance(thing, tuple) or not all([_is_of_row(world, part) for part in thing]):
        return False
    late = [part[1] for part in thing if part[0] == "late"]
    return len(set(late)) == len(late) and all([place in late for place in forced(world)])


def _is_own_letter(world, sender, receiver, thing):
    """Whether the rest can send thing, from sender to receiver, as a LETTER of its own."""
    net, steady = world[0], world[2]
    if not is_number(sender) or not is_number(receiver) or not is_letter(net, thing):
        return False
    if sender not in persons(net) or sender in steady or receiver not in steady:
        return False
    if thing[0] in _OF_SHEETS:
        return sorted(net[channel_of(thing)][:2]) == sorted([sender, receiver])
    return thing[0] != "secret" or thing[2] in world[10]


def _is_of_letters(world, thing):
    """Whether thing can stand among the letters of a CHOICE."""
    if is_tuple_of(thing, 2):
        return thing[0] == "sent" and is_below(thing[1], len(world[7]))
    return is_tuple_of(thing, 4) and thing[0] == "own" and _is_own_letter(world, thing[1], thing[2], thing[3])


def _is_choice(world, thing):
    """is_choice, where all of the WORLD is made of tuples."""
    if not is_tuple_of(thing, 2) or not isinstance(thing[1], tuple):
        return False
    return _is_row(world, thing[0]) and all([_is_of_letters(world, part) for part in thing[1]])


def is_choice(world, thing):
    """Whether thing is a CHOICE of the rest in world."""
    return _is_choice(frozen(world), thing)


class Day:
    """A WORLD on its way to the next moment, in its parts. All is made of tuples."""

    def __init__(self, world):
        net, times, steady, moment, ledger, minds, boxes, sent, handed, signed, known = world
        self.net = net
        self.times = times
        self.steady = steady
        self.moment = moment
        self.ledger = ledger
        self.minds = list(minds)
        self.boxes = list(boxes)
        self.sent = list(sent)
        self.handed = list(handed)
        self.signed = list(signed)
        self.known = list(known)

    def world(self):
        """The WORLD as it is now."""
        return (
            self.net,
            self.times,
            self.steady,
            self.moment,
            self.ledger,
            tuple(self.minds),
            tuple(self.boxes),
            tuple(self.sent),
            tuple(self.handed),
            ascending(self.signed),
            ascending(self.known + list(all_shown(self.ledger))),
        )

    def come(self, deeds, late, sealed):
        """The next moment begins: deeds come to the ledger, those on the way at the places late among them."""
        self.moment += 1
        self.ledger = comes(self.net, self.ledger, self.times, self.moment, deeds, sealed)
        self.handed = [self.handed[place] for place in range(len(self.handed)) if place not in late]

    def bring(self, letters):
        """LETTERS come to the boxes."""
        for part in letters:
            sender, receiver, letter = self.sent[part[1]][:3] if part[0] == "sent" else part[1:]
            place = self.steady.index(receiver)
            self.boxes[place] = self.boxes[place] + ((sender, letter),)

    def look(self):
        """The steady ones look."""
        for place in range(len(self.steady)):
            person, box = self.steady[place], self.boxes[place]
            mind, deeds, letters = at_look(self.minds[place], self.moment, self.ledger, box)
            self.minds[place] = mind
            self.boxes[place] = ()
            self.handed.extend([(person, deed, self.moment + self.times[0]) for deed in deeds])
            for receiver, letter in letters:
                self.send(person, receiver, letter)

    def send(self, sender, receiver, letter):
        """A steady one sends a LETTER, which the rest carries."""
        if letter[0] in _OF_SHEETS:
            self.signed.append((sender, letter[1]))
        if letter[0] == "secret":
            self.known.append(letter[2])
        if receiver not in self.steady:
            return
        fresh = (sender, receiver, letter, self.moment)
        places = [place for place in range(len(self.sent)) if self.sent[place][:3] == fresh[:3]]
        if places == []:
            self.sent.append(fresh)
        else:
            self.sent[places[0]] = fresh


def begun_world(net, times, steady, wishes, asks, cares):
    """The first WORLD, behind the look of moment 0."""
    minds = [begun_mind(net, times, person, wishes[person], asks[person], cares[person]) for person in steady]
    known = [ask[0] for person in range(len(asks)) if person not in steady for ask in asks[person]]
    boxes = [()] * len(steady)
    day = Day(frozen((net, times, steady, 0, begun_ledger(net), minds, boxes, (), (), (), known)))
    day.look()
    return day.world()


def deeds_in(world, row):
    """The tuple of the DEEDS that come to the ledger by the row of a CHOICE. All is made of tuples."""
    return tuple([part[1] if part[0] == "own" else world[8][part[1]][1] for part in row])


def next_world(world, choice):
    """The WORLD behind choice; Unfit() if it is no CHOICE."""
    there, chosen = frozen(world), frozen(choice)
    if not _is_choice(there, chosen):
        raise Unfit()
    row, letters = chosen
    deeds = deeds_in(there, row)
    pages = [deed[1] for deed in deeds if deed[0] == "close"]
    late = [part[1] for part in row if part[0] == "late"]
    day = Day(there)
    day.come(deeds, late, [page for page in pages if _is_sealed(there, page)])
    day.bring(letters)
    if day.moment % day.times[1] == 0:
        day.look()
    return day.world()


def quiet(world):
    """The CHOICE with the forced DEEDS alone."""
    return (tuple([("late", place) for place in forced(world)]), ())


def swift(world):
    """The CHOICE with all DEEDS on the way and all LETTERS that were sent last at this moment."""
    late = [("late", place) for place in range(len(world[8]))]
    fresh = [("sent", place) for place in range(len(world[7])) if world[7][place][3] == world[3]]
    return (tuple(late), tuple(fresh))


def sealed_in(world, channel):
    """The tuple of the sealed SHEETS of a channel with a steady PERSON, ascending by number."""
    there = frozen(world)
    pages = [first_sheet(there[0], channel)] + [page for _, page in there[9] if page[0] == channel]
    return ascending([page for page in pages if _is_sealed(there, page)])


def view_of(world, person):
    """The VIEW that world has of a steady PERSON; Unfit() for all others."""
    there = frozen(world)
    if person not in there[2]:
        raise Unfit()
    mind = there[5][there[2].index(person)]
    coming = tuple([(deed, last) for own, deed, last in there[8] if own == person])
    return (person, there[3], there[4], held_by(mind), given_by(mind), known_by(mind), coming)
