"""A shell: requests by which a world is begun, played, asked, and taken back."""

from suredue.dues import due
from suredue.errors import BadText, CanNot, NoPlace, Unfit
from suredue.ledger import ends_with, lies
from suredue.letters import net_read, plan_read, times_read, wishes_read
from suredue.payments import fates, people_on, tallies_of
from suredue.plans import moved, played_out
from suredue.settling import state_of
from suredue.sheets import image_of, people_of
from suredue.values import ascending, at_place, is_below, is_written, with_part
from suredue.worlds import begun_world, quiet, sealed_in, swift

_MOST_FIGURES = 7
# How many numbers stand behind each word.
_WITH_TEXT = {"net": 0, "times": 0, "wishes": 1, "plan": 0}
_WITHOUT_TEXT = {
    "ask": 3,
    "quiet": 1,
    "swift": 1,
    "undo": 0,
    "moment": 0,
    "handed": 0,
    "sent": 0,
    "known": 0,
    "ledger": 1,
    "ends": 0,
    "due": 1,
    "fates": 2,
    "tally": 2,
}
_DEEDS = ("net", "times", "steady", "wishes", "ask", "plan", "quiet", "swift")


class Request:
    """A request: its word, its numbers, and its text, None if it has none."""

    def __init__(self, word, numbers, text):
        self.word = word
        self.numbers = numbers
        self.text = text


def _can_stand(word, many, has_text):
    """Whether word can stand with so many numbers, with a text or without one."""
    if has_text:
        return word in _WITH_TEXT and _WITH_TEXT[word] == many
    if word == "steady":
        return many > 0
    return word in _WITHOUT_TEXT and _WITHOUT_TEXT[word] == many


def _request(lines):
    """The Request of these lines, with the first of which it begins; None if they are none."""
    parts, rest = lines[0].split(" "), lines[1:]
    if not _can_stand(parts[0], len(parts) - 1, rest != []):
        return None
    if not all([is_written(part, _MOST_FIGURES) for part in parts[1:]]):
        return None
    text = "\n".join([line[1:] for line in rest]) if rest != [] else None
    return Request(parts[0], [int(part) for part in parts[1:]], text)


def _groups(text):
    """The list of the pairs (line, lines): where a request begins or should begin, and all its lines."""
    groups, lines = [], text.split("\n")
    for at in range(len(lines)):
        if at > 0 and lines[at].startswith(" "):
            groups[-1][1].append(lines[at])
        else:
            groups.append((at + 1, [lines[at]]))
    return groups


def is_request(thing):
    """Whether thing is a string that is one request, whatever its text."""
    if not isinstance(thing, str):
        return False
    groups = _groups(thing)
    return len(groups) == 1 and _request(groups[0][1]) is not None


def _told(parts):
    """The numbers or words of a reply."""
    return " ".join([str(part) for part in parts]) if len(parts) > 0 else "-"


class Play:
    """What a shell holds: a NET, TIMES, the steady ones, WISHES, asks, and the WORLD. It is never changed."""

    def __init__(self, net, times, steady, wishes, asks, world):
        self.net = net
        self.times = times
        self.steady = steady
        self.wishes = wishes
        self.asks = asks
        self.world = world

    def check_person(self, person):
        """Unfit() if person is no PERSON of the NET."""
        if person not in people_of(self.net):
            raise Unfit()

    def check_wish(self, person, what):
        """Unfit() if person can't pay over this route, or is not in the channel to be left."""
        if what[0] == "pay":
            people_on(self.net, person, what[1])
        elif not is_below(what[1], len(self.net)) or person not in self.net[what[1]][:2]:
            raise Unfit()

    def with_net(self, text):
        """The Play with another NET, in which nobody is steady, wishes or asks."""
        net = net_read(text)
        nobody = ((),) * (max(people_of(net)) + 1)
        return _begun(net, self.times, (), nobody, nobody)

    def with_steady(self, people):
        """The Play with these steady ones."""
        for person in people:
            self.check_person(person)
        return _begun(self.net, self.times, ascending(people), self.wishes, self.asks)

    def with_wishes(self, person, text):
        """The Play with these WISHES of person."""
        wishes = wishes_read(text)
        self.check_person(person)
        for _, what in wishes:
            self.check_wish(person, what)
        return _begun(self.net, self.times, self.steady, with_part(self.wishes, person, wishes), self.asks)

    def with_ask(self, person, secret, amount):
        """The Play with one ask more of person."""
        self.check_person(person)
        asks = with_part(self.asks, person, self.asks[person] + ((secret, amount),))
        return _begun(self.net, self.times, self.steady, self.wishes, asks)

    def at(self, world):
        """The Play with another WORLD."""
        return Play(self.net, self.times, self.steady, self.wishes, self.asks, world)

    def behind(self, request):
        """The Play behind a deed."""
        word, numbers, text = request.word, request.numbers, request.text
        if word == "net":
            return self.with_net(text)
        if word == "times":
            return _begun(self.net, times_read(text), self.steady, self.wishes, self.asks)
        if word == "steady":
            return self.with_steady(numbers)
        if word == "wishes":
            return self.with_wishes(numbers[0], text)
        if word == "ask":
            return self.with_ask(numbers[0], numbers[1], numbers[2])
        if word == "plan":
            return self.at(played_out(self.world, plan_read(text)))
        return self.at(moved(self.world, numbers[0], quiet if word == "quiet" else swift)[1])

    def ledger_told(self, channel):
        """The state of channel and, if it is closed, the number of the SHEET that lies there."""
        ledger = self.world[4]
        state, sheet = state_of(ledger, self.times, channel, self.world[3]), lies(ledger, channel)
        return [state] if sheet is None else [state, sheet[1]]

    def fates_told(self, channel, secret):
        """The fates in channel of the RUNS of the IMAGE of secret."""
        people = at_place(self.net, channel)[:2]
        if people[0] not in self.steady and people[1] not in self.steady:
            raise Unfit()
        sheets, place = sealed_in(self.world, channel), self.world[4][channel]
        return fates(sheets, place, self.world[3], image_of(secret))

    def tally_told(self, person, secret):
        """What person gets and gives by the IMAGE of secret."""
        self.check_person(person)
        return tallies_of(self.world, image_of(secret))[person]

    def told(self, request):
        """The numbers and words that answer a request that is no deed."""
        word, numbers = request.word, request.numbers
        if word == "moment":
            return [self.world[3]]
        if word == "handed":
            return [len(self.world[8])]
        if word == "sent":
            return [len(self.world[7])]
        if word == "known":
            return self.world[10]
        if word == "ends":
            return ends_with(self.net, self.world[4], self.times, self.world[3])
        if word == "ledger":
            return self.ledger_told(numbers[0])
        if word == "due":
            return [due(self.world, numbers[0])]
        return self.fates_told(numbers[0], numbers[1]) if word == "fates" else self.tally_told(numbers[0], numbers[1])


def _begun(net, times, steady, wishes, asks):
    """The Play that begins with all this."""
    world = begun_world(net, times, steady, wishes, asks, ((0, 0, 0),) * len(asks))
    return Play(net, times, steady, wishes, asks, world)


class Session:
    """A shell at work: what it holds, and the words and the Plays ahead of the deeds that can be taken back."""

    def __init__(self):
        self.play = _begun(((0, 1, 10, 10),), (1, 1, 1), (0,), ((), ()), ((), ()))
        self.past = []

    def undo(self):
        """Takes the last deed back, and returns its word."""
        if self.past == []:
            raise CanNot()
        word, self.play = self.past.pop()
        return word

    def work(self, request):
        """Works a request, and returns the reply."""
        if request.word == "undo":
            return self.undo()
        if request.word not in _DEEDS:
            return _told(self.play.told(request))
        fresh = self.play.behind(request)
        self.past.append((request.word, self.play))
        self.play = fresh
        return "done"

    def reply(self, request):
        """The reply to a request, also to one that is refused."""
        try:
            return self.work(request)
        except BadText:
            return "refused BadText"
        except CanNot:
            return "refused CanNot"
        except NoPlace:
            return "refused NoPlace"
        except Unfit:
            return "refused Unfit"


def shell(text):
    """The list of the replies to the requests of text; BadText(line) for the first line that begins none."""
    if text == "":
        return []
    requests = []
    for line, lines in _groups(text):
        request = _request(lines)
        if request is None:
            raise BadText(line)
        requests.append(request)
    session = Session()
    return [session.reply(request) for request in requests]
