"""Section 21 told a second time: what is a claim, whether it is so, and who judges its papers."""

import plain
import plain_dues
import plain_games
import plain_payments


def whatever(thing):
    return True


def wish(thing):
    leave = (lambda part: plain.row_of(part, plain.word("leave"), plain.number))
    numbers = (lambda part: plain.many_of(part, plain.number))
    pay = (lambda part: plain.row_of(part, plain.word("pay"), numbers, plain.from_one, plain.image, numbers))
    if not plain.row_of(thing, plain.number, lambda part: leave(part) or pay(part)):
        return False
    return thing[1][0] == "leave" or 0 < len(thing[1][1]) == len(thing[1][4])


def rows_of(judge):
    return lambda thing: plain.many_of(thing, lambda part: plain.many_of(part, judge))


def pair(one, other):
    return lambda thing: plain.row_of(thing, one, other)


def claim(thing):
    if thing.__class__ is not tuple or not thing or thing[0].__class__ is not str:
        return False
    if thing[0] == "wait":
        return plain.row_of(thing, whatever, plain.from_one, plain.from_one, plain.number)
    if thing[0] == "least":
        return plain.row_of(thing, whatever, plain_games.is_game, plain.number)
    if thing[0] == "due":
        if not plain.row_of(thing, whatever, plain.net, plain.times, whatever, plain.number):
            return False
        return plain_dues.is_view(thing[1], thing[3])
    if thing[0] == "whole":
        asks, tallies = rows_of(pair(plain.number, plain.from_one)), pair(plain.number, plain.number)
        judges = (lambda part: plain_dues.is_set(part, plain.number), rows_of(wish), asks)
        if not plain.row_of(thing, whatever, *judges, lambda part: plain.many_of(part, tallies), plain.image):
            return False
        return len(thing[2]) == len(thing[3]) == len(thing[4]) and all(person < len(thing[2]) for person in thing[1])
    return thing[0] == "settled" and settled_claim(thing)


def settled_claim(thing):
    judges = (whatever, plain.net, plain.times, whatever, whatever, plain.number, whatever, plain.number)
    if not plain.row_of(thing, *judges) or not plain.ledger(thing[1], thing[3]) or not plain.place(thing[1], thing[4]):
        return False
    entry, moment = thing[3][thing[4]], thing[5]
    if entry is None or entry[1] > moment or any(at > moment for _, at in entry[2]):
        return False
    return plain.many_of(thing[6], lambda part: plain.sheet(thing[1], part)) and thing[7] > moment


def breaches(thing):
    return plain_payments.breaches(*thing[1:])


def unsettled(thing, row):
    """Whether the channel of a claim is not settled at its by, if row comes next and nothing behind it."""
    _, net, times, ledger, channel, moment, sealed, by = thing
    behind = plain.behind(net, ledger, times, moment + 1, row, sealed)
    return not plain.registers(net, times, sealed, behind)[channel].settled(by)


def is_so(thing):
    word = thing[0]
    if word == "wait":
        _, delay, look, wait = thing
        # An elder SHEET that comes at moment is seen at the next look: all looks are alike.
        return all(plain.last_coming((look, 0, delay), moment) <= moment + wait for moment in range(1, look + 1))
    if word == "least":
        return plain_games.least(thing[1]) >= thing[2]
    if word == "due":
        return plain_dues.due(*thing[1:4]) >= thing[4]
    if word == "whole":
        return breaches(thing) == ()
    _, net, times, ledger, channel, moment, sealed, by = thing
    along = plain.all_that_comes(net, channel, ledger[channel], times, moment, sealed, (), by)
    return all(plain.Register(net, channel, times[2], sealed, there).settled(by) for there in along[by])


def against(thing, paper):
    """Whether paper is one against a claim."""
    word = thing[0]
    if word == "wait":
        _, delay, look, wait = thing
        return plain.late_pair(((look, 0, delay),), wait, paper)
    if word == "least":
        table = plain_games.behind_plan(thing[1], paper)
        return table is not None and table.end() < thing[2]
    if word == "due":
        return plain_dues.is_case(*thing[1:4], paper) and plain_dues.worth(*thing[1:4], paper) < thing[4]
    if word == "whole":
        return plain.row_of(paper, lambda part: part.__class__ is str, plain.number) and paper in breaches(thing)
    return plain.many_of(paper, lambda deed: plain.deed(thing[1], deed)) and unsettled(thing, paper)


def verdict(thing, paper):
    if against(thing, paper):
        return "against"
    return "for" if paper.__class__ is tuple and paper == () and is_so(thing) else "none"


def comes_of_one(one, other):
    """Whether one comes of the other, by what each says."""
    if one == other:
        return True
    if one[0] != other[0] or one[0] == "whole":
        return False
    if one[0] == "wait":
        return not (one[1] > other[1] or one[2] > other[2] or one[3] < other[3])
    alike = one[1:-1] == other[1:-1]
    return alike and (one[-1] > other[-1] if one[0] == "settled" else one[-1] < other[-1])
