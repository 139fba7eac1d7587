"""Letters, and the texts of all that is written down."""

from suredue.errors import BadText
from suredue.sheets import image_of, is_image, is_sheet
from suredue.values import are_from, is_below, is_from, is_tuple_of, is_written

_OF_SHEETS = ("offer", "agree")
_OF_NUMBERS = ("turn", "secret")
_MOST_FIGURES = 12


def is_letter(net, thing):
    """Whether thing is a LETTER of net."""
    if is_tuple_of(thing, 2):
        return thing[0] in _OF_SHEETS and is_sheet(net, thing[1])
    if is_tuple_of(thing, 3):
        return thing[0] in _OF_NUMBERS and is_below(thing[1], len(net)) and is_from(thing[2], 0)
    if not is_tuple_of(thing, 5) or thing[0] != "pass" or not is_below(thing[1], len(net)) or not is_image(thing[2]):
        return False
    route, ends = thing[3:]
    if not are_from(route, 0) or not are_from(ends, 0) or len(route) != len(ends):
        return False
    return all([channel < len(net) for channel in route])


def channel_of(letter):
    """The channel that letter names."""
    return letter[1][0] if letter[0] in _OF_SHEETS else letter[1]


def _line(word, numbers):
    """The line with this word and numbers."""
    return " ".join([word] + [str(number) for number in numbers])


def _walk(route, ends):
    """The list of a channel, its end, the next channel, and so on."""
    return [number for pair in zip(route, ends) for number in pair]


def _sheet_lines(word, sheet):
    """The lines of sheet, with word in the place of its own one."""
    channel, number, sums, locks = sheet
    first = [_line(word, (channel, number, sums[0], sums[1]))]
    return first + [_line("lock", (payer, amount, image[1], end)) for payer, amount, image, end in locks]


def _letter_lines(letter):
    """The lines of a LETTER or of a DEED."""
    word = letter[0]
    if word == "pass":
        channel, image, route, ends = letter[1:]
        return [_line(word, [channel, image[1]] + _walk(route, ends))]
    if word in _OF_SHEETS or word == "close":
        return _sheet_lines(word, letter[1])
    return [_line(word, letter[1:])]


def _wish_line(wish):
    """The line of a WISH."""
    moment, what = wish
    if what[0] == "leave":
        return _line("leave", (moment, what[1]))
    route, amount, image, ends = what[1:]
    return _line("pay", [moment, amount, image[1]] + _walk(route, ends))


def _choice_lines(choice):
    """The lines of a CHOICE."""
    row, letters = choice
    lines = ["choice"]
    for part in row:
        lines.extend([_line("late", part[1:])] if part[0] == "late" else _letter_lines(part[1]))
    for part in letters:
        if part[0] == "sent":
            lines.append(_line("sent", part[1:]))
        else:
            lines.append(_line("own", part[1:3]))
            lines.extend(_letter_lines(part[3]))
    return lines


def _joined(rows):
    """The text of rows of lines."""
    return "\n".join([line for row in rows for line in row])


def net_text(net):
    """The text of a NET."""
    return _joined([["net"], [_line("channel", channel) for channel in net]])


def times_text(times):
    """The text of TIMES."""
    return _line("times", times)


def sheet_text(sheet):
    """The text of a SHEET."""
    return _joined([_sheet_lines("sheet", sheet)])


def letters_text(letters):
    """The text of a tuple of LETTERS."""
    return _joined([_letter_lines(letter) for letter in letters])


def deeds_text(deeds):
    """The text of a tuple of DEEDS."""
    return _joined([_letter_lines(deed) for deed in deeds])


def wishes_text(wishes):
    """The text of a tuple of WISHES."""
    return _joined([[_wish_line(wish) for wish in wishes]])


def plan_text(plan):
    """The text of a PLAN."""
    return _joined([_choice_lines(choice) for choice in plan])


class Lines:
    """The lines of a text, to be taken one after the other."""

    def __init__(self, text):
        self.lines = text.split("\n") if text != "" else []
        self.taken = 0

    def are_left(self):
        """Whether a line is left."""
        return self.taken < len(self.lines)

    def word(self):
        """The word with which the next line begins; None behind the last one."""
        return self.lines[self.taken].split(" ")[0] if self.are_left() else None

    def numbers(self, word, many):
        """Takes the next line, which must be word and so many numbers, and returns these."""
        found = self.numbers_and_walk(word, many)
        if len(found) != many:
            raise BadText(self.taken)
        return found

    def numbers_and_walk(self, word, many):
        """Takes the next line, which must be word, so many numbers and any pairs of such, and returns all."""
        self.taken += 1
        parts = self.lines[self.taken - 1].split(" ") if self.taken <= len(self.lines) else []
        if parts[:1] != [word] or len(parts) <= many or (len(parts) - 1 - many) % 2 > 0:
            raise BadText(self.taken)
        if not all([is_written(part, _MOST_FIGURES) for part in parts[1:]]):
            raise BadText(self.taken)
        return [int(part) for part in parts[1:]]

    def finish(self):
        """Refuses a line that is left."""
        if self.are_left():
            raise BadText(self.taken + 1)


def _take_sheet(lines, word):
    """Takes the lines of a SHEET that begins with word."""
    channel, number, one, other = lines.numbers(word, 4)
    locks, secrets = [], []
    while lines.word() == "lock":
        payer, amount, secret, end = lines.numbers("lock", 4)
        if payer > 1 or amount == 0 or secret in secrets:
            raise BadText(lines.taken)
        secrets.append(secret)
        locks.append((payer, amount, image_of(secret), end))
    return (channel, number, (one, other), tuple(locks))


def _take_letter(lines):
    """Takes the lines of a LETTER."""
    word = lines.word()
    if word in _OF_SHEETS:
        return (word, _take_sheet(lines, word))
    if word in _OF_NUMBERS:
        return (word, *lines.numbers(word, 2))
    found = lines.numbers_and_walk("pass", 2)
    return ("pass", found[0], image_of(found[1]), tuple(found[2::2]), tuple(found[3::2]))


def _take_deed(lines):
    """Takes the lines of a DEED."""
    if lines.word() == "close":
        return ("close", _take_sheet(lines, "close"))
    return ("show", *lines.numbers("show", 2))


def _take_wish(lines):
    """Takes the line of a WISH."""
    if lines.word() == "leave":
        moment, channel = lines.numbers("leave", 2)
        return (moment, ("leave", channel))
    found = lines.numbers_and_walk("pay", 3)
    moment, amount, secret = found[:3]
    if amount == 0 or len(found) == 3:
        raise BadText(lines.taken)
    return (moment, ("pay", tuple(found[3::2]), amount, image_of(secret), tuple(found[4::2])))


def _take_choice(lines):
    """Takes the lines of a CHOICE."""
    row, letters = [], []
    lines.numbers("choice", 0)
    while lines.word() in ("late", "close", "show"):
        if lines.word() == "late":
            row.append(("late", *lines.numbers("late", 1)))
        else:
            row.append(("own", _take_deed(lines)))
    while lines.word() in ("sent", "own"):
        if lines.word() == "sent":
            letters.append(("sent", *lines.numbers("sent", 1)))
        else:
            people = lines.numbers("own", 2)
            letters.append(("own", *people, _take_letter(lines)))
    return (tuple(row), tuple(letters))


def net_read(text):
    """The NET with this text; BadText(line) for the first line that can not stand there."""
    lines, net = Lines(text), []
    lines.numbers("net", 0)
    while net == [] or lines.are_left():
        channel = tuple(lines.numbers("channel", 4))
        if channel[0] == channel[1]:
            raise BadText(lines.taken)
        net.append(channel)
    return tuple(net)


def times_read(text):
    """The TIMES with this text; BadText(line) as net_read."""
    lines = Lines(text)
    delay, look, wait = lines.numbers("times", 3)
    if delay == 0 or look == 0:
        raise BadText(lines.taken)
    lines.finish()
    return (delay, look, wait)


def sheet_read(text):
    """The SHEET with this text; BadText(line) as net_read."""
    lines = Lines(text)
    sheet = _take_sheet(lines, "sheet")
    lines.finish()
    return sheet


def letters_read(text):
    """The tuple of LETTERS with this text; BadText(line) as net_read."""
    lines, letters = Lines(text), []
    while lines.are_left():
        letters.append(_take_letter(lines))
    return tuple(letters)


def deeds_read(text):
    """The tuple of DEEDS with this text; BadText(line) as net_read."""
    lines, deeds = Lines(text), []
    while lines.are_left():
        deeds.append(_take_deed(lines))
    return tuple(deeds)


def wishes_read(text):
    """The tuple of WISHES with this text; BadText(line) as net_read."""
    lines, wishes = Lines(text), []
    while lines.are_left():
        wishes.append(_take_wish(lines))
    return tuple(wishes)


def plan_read(text):
    """The PLAN with this text; BadText(line) as net_read."""
    lines, plan = Lines(text), []
    while lines.are_left():
        plan.append(_take_choice(lines))
    return tuple(plan)
