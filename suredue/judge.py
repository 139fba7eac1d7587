"""One judge: claims of five kinds, papers for and against them, and what comes of what."""

from suredue.clocks import enough_wait
from suredue.dues import due_in, is_case, is_view, worst_case, worth_of
from suredue.errors import Unfit
from suredue.games import ended, is_game, is_game_plan, least_end, worst_plan
from suredue.ledger import comes, is_deed, is_ledger
from suredue.payments import breaches
from suredue.settling import alone, late_row, surely_by
from suredue.sheets import is_image, is_net, is_sheet, is_times
from suredue.values import are_from, frozen, is_below, is_from, is_number, is_set_from, is_tuple_of
from suredue.watch import is_too_little


def _is_of_wait(thing):
    """Whether thing is a CLAIM that a wait is enough."""
    return is_tuple_of(thing, 4) and is_from(thing[1], 1) and is_from(thing[2], 1) and is_from(thing[3], 0)


def _is_of_least(thing):
    """Whether thing is a CLAIM that no plan of a GAME ends with less than a number."""
    return is_tuple_of(thing, 3) and is_game(thing[1]) and is_from(thing[2], 0)


def _is_of_due(thing):
    """Whether thing is a CLAIM that an amount at least is due."""
    if not is_tuple_of(thing, 5) or not is_net(thing[1]) or not is_times(thing[2]):
        return False
    return is_view(thing[1], thing[3]) and is_from(thing[4], 0)


def _is_wish(thing):
    """Whether thing is a WISH of whomever."""
    if not is_tuple_of(thing, 2) or not is_from(thing[0], 0):
        return False
    what = thing[1]
    if is_tuple_of(what, 2):
        return what[0] == "leave" and is_from(what[1], 0)
    if not is_tuple_of(what, 5) or what[0] != "pay" or not is_from(what[2], 1) or not is_image(what[3]):
        return False
    route, ends = what[1], what[4]
    return are_from(route, 0) and route != () and are_from(ends, 0) and len(ends) == len(route)


def _are_wishes(thing):
    """Whether thing is a tuple of WISHES."""
    return isinstance(thing, tuple) and all([_is_wish(part) for part in thing])


def _are_asks(thing):
    """Whether thing is a tuple of pairs (secret, amount)."""
    if not isinstance(thing, tuple):
        return False
    return all([is_tuple_of(part, 2) and is_from(part[0], 0) and is_from(part[1], 1) for part in thing])


def _is_of_whole(thing):
    """Whether thing is a CLAIM that there are no breaches."""
    if not is_tuple_of(thing, 6) or not all([isinstance(part, tuple) for part in thing[1:5]]):
        return False
    steady, wishes, asks, tallies, image = thing[1:]
    many = len(wishes)
    if not is_set_from(steady, 0) or len(asks) != many or len(tallies) != many or not is_image(image):
        return False
    if not all([_are_wishes(part) for part in wishes]) or not all([_are_asks(part) for part in asks]):
        return False
    if not all([is_tuple_of(part, 2) and are_from(part, 0) for part in tallies]):
        return False
    return all([person < many for person in steady])


def _is_closed_by(entry, moment):
    """Whether a LEDGER that tells entry of a channel has it closed, with nothing behind moment."""
    return entry is not None and entry[1] <= moment and all([pair[1] <= moment for pair in entry[2]])


def _is_of_settled(thing):
    """Whether thing is a CLAIM by when a channel is settled."""
    if not is_tuple_of(thing, 8):
        return False
    net, times, ledger, channel, moment, sealed, by = thing[1:]
    if not is_net(net) or not is_times(times) or not is_ledger(net, ledger) or not is_below(channel, len(net)):
        return False
    if not isinstance(sealed, tuple) or not all([is_sheet(net, page) for page in sealed]):
        return False
    return is_from(moment, 0) and is_from(by, 0) and by > moment and _is_closed_by(ledger[channel], moment)


_JUDGES = {
    "wait": _is_of_wait,
    "least": _is_of_least,
    "due": _is_of_due,
    "whole": _is_of_whole,
    "settled": _is_of_settled,
}


def is_claim(thing):
    """Whether thing is a CLAIM."""
    if not isinstance(thing, tuple) or thing == () or not isinstance(thing[0], str) or thing[0] not in _JUDGES:
        return False
    judge = _JUDGES[thing[0]]
    return judge(thing)


def _checked(claim):
    """The CLAIM, made of tuples; Unfit() if it is none."""
    there = frozen(claim)
    if not is_claim(there):
        raise Unfit()
    return there


def _all_checked(claims):
    """The list of the CLAIMS, made of tuples; Unfit() if one is none."""
    return [_checked(claim) for claim in claims]


def _is_so(claim):
    """is_so for a CLAIM."""
    word = claim[0]
    if word == "wait":
        return enough_wait(claim[1:])
    if word == "least":
        return least_end(claim[1]) >= claim[2]
    if word == "due":
        return due_in(claim[1], claim[2], claim[3]) >= claim[4]
    if word == "whole":
        steady, wishes, asks, tallies, image = claim[1:]
        return breaches(steady, wishes, asks, tallies, image) == ()
    _, times, ledger, channel, moment, sealed, by = claim[1:]
    return surely_by(ledger, times, channel, moment, sealed) <= by


def is_so(claim):
    """Whether claim is so; Unfit() if it is none."""
    return _is_so(_checked(claim))


def _paper_against(claim):
    """A PAPER against a CLAIM that is not so."""
    word = claim[0]
    if word == "wait":
        # What comes a moment behind a look is seen latest.
        return (1, (claim[1] + claim[2],))
    if word == "least":
        return worst_plan(claim[1])
    if word == "due":
        return worst_case(claim[1], claim[2], claim[3])
    if word == "whole":
        steady, wishes, asks, tallies, image = claim[1:]
        return breaches(steady, wishes, asks, tallies, image)[0]
    _, times, ledger, channel, moment, sealed, _ = claim[1:]
    return late_row(ledger, times, channel, moment, sealed)


def paper(claim):
    """A PAPER for claim if it is so, otherwise one against it; Unfit() if it is none."""
    there = _checked(claim)
    return () if _is_so(there) else _paper_against(there)


def _is_late_row(claim, thing):
    """Whether thing is a ROW by which a channel is not settled as a CLAIM says."""
    net, times, ledger, channel, moment, sealed, by = claim[1:]
    if not isinstance(thing, tuple) or not all([is_deed(net, part) for part in thing]):
        return False
    return alone(comes(net, ledger, times, moment + 1, thing, sealed), times, channel) > by


def _is_paper_against(claim, thing):
    """is_paper_against for a CLAIM."""
    word = claim[0]
    if word == "wait":
        delay, look, wait = claim[1:]
        return is_too_little(((look, 0, delay),), wait, thing)
    if word == "least":
        return is_game_plan(claim[1], thing) and ended(claim[1], thing) < claim[2]
    if word == "due":
        net, times, view, amount = claim[1:]
        return is_case(net, times, view, thing) and worth_of(net, times, view, thing) < amount
    if word == "whole":
        steady, wishes, asks, tallies, image = claim[1:]
        # Python takes True for 1.
        is_pair = is_tuple_of(thing, 2) and is_number(thing[1])
        return is_pair and thing in breaches(steady, wishes, asks, tallies, image)
    return _is_late_row(claim, thing)


def is_paper_for(claim, thing):
    """Whether thing is a PAPER for claim; Unfit() if claim is none."""
    there = _checked(claim)
    return is_tuple_of(thing, 0) and _is_so(there)


def is_paper_against(claim, thing):
    """Whether thing is a PAPER against claim; Unfit() if claim is none."""
    return _is_paper_against(_checked(claim), thing)


def _verdict(claim, thing):
    """What thing is for a CLAIM: "for", "against" or "none"."""
    if _is_paper_against(claim, thing):
        return "against"
    return "for" if is_tuple_of(thing, 0) and _is_so(claim) else "none"


def verdicts(claims, things):
    """The list of what each of things is for the CLAIM at its place; Unfit() if one is none or they are not as many."""
    there = _all_checked(claims)
    if len(things) != len(there):
        raise Unfit()
    return [_verdict(there[at], things[at]) for at in range(len(there))]


def _comes_of_one(claim, other):
    """Whether a CLAIM is the other one, or comes of it by a rule."""
    if claim[0] != other[0]:
        return False
    if claim[0] == "wait":
        return claim[1] <= other[1] and claim[2] <= other[2] and claim[3] >= other[3]
    if claim[0] in ("least", "due"):
        return claim[:-1] == other[:-1] and claim[-1] <= other[-1]
    if claim[0] == "settled":
        return claim[:-1] == other[:-1] and claim[-1] >= other[-1]
    return claim == other


def comes_of(claim, claims):
    """Whether claim comes of claims; Unfit() if one of them is none."""
    there = _checked(claim)
    return any([_comes_of_one(there, other) for other in _all_checked(claims)])


def first_false(claims):
    """The first place whose CLAIM is not so, None if all are; Unfit() if one is none."""
    there = _all_checked(claims)
    for at in range(len(there)):
        if not _is_so(there[at]):
            return at
    return None
