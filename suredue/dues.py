"""Dues: what a person can count on at a moment, whatever the rest does from then on."""

from suredue.errors import NoPlace, Unfit
from suredue.ledger import is_deed, is_ledger
from suredue.sheets import is_image, is_sheet, people_of, side_of
from suredue.sights import Search, Sight, laid
from suredue.values import ascending, at_place, frozen, is_below, is_from, is_set_from, is_tuple_of
from suredue.worlds import view_of


def _is_held(net, person, thing):
    """Whether thing is what a VIEW of person tells as held."""
    if not is_tuple_of(thing, len(net)):
        return False
    for channel in range(len(net)):
        if side_of(net, channel, person) is None:
            if thing[channel] is not None:
                return False
        elif not is_sheet(net, thing[channel]) or thing[channel][0] != channel:
            return False
    return True


def _is_given(net, person, thing):
    """Whether thing is a set of SHEETS of channels of person."""
    if not isinstance(thing, tuple) or not all([is_sheet(net, part) for part in thing]):
        return False
    return thing == ascending(thing) and all([side_of(net, page[0], person) is not None for page in thing])


def _is_coming(net, thing):
    """Whether thing is a tuple of pairs (deed, last)."""
    if not isinstance(thing, tuple):
        return False
    return all([is_tuple_of(part, 2) and is_deed(net, part[0]) and is_from(part[1], 0) for part in thing])


def _is_behind(moment, ledger):
    """Whether something on the LEDGER is behind moment."""
    entries = [entry for entry in ledger if entry is not None]
    return any([last > moment for entry in entries for last in [entry[1]] + [pair[1] for pair in entry[2]]])


def is_view(net, thing):
    """Whether thing is a VIEW, (person, moment, ledger, held, given, secrets, coming), of a PERSON of net."""
    if not is_tuple_of(thing, 7):
        return False
    person, moment, ledger, held, given, secrets, coming = thing
    if not is_from(person, 0) or person not in people_of(net) or not is_from(moment, 0):
        return False
    if not is_ledger(net, ledger) or _is_behind(moment, ledger):
        return False
    if not _is_held(net, person, held) or not _is_given(net, person, given):
        return False
    return is_set_from(secrets, 0) and _is_coming(net, coming)


def _sight(net, times, view):
    """The Sight of view; Unfit() if it is no VIEW."""
    there = frozen(view)
    if not is_view(net, there):
        raise Unfit()
    return Sight(net, times, there)


def _check_own(net, sight, channel):
    """NoPlace(channel) if net has none of that place, or the PERSON is not in it."""
    at_place(net, channel)
    if channel not in sight.own_sides:
        raise NoPlace(channel)


def can_lie(net, times, view, channel):
    """The tuple of the SHEETS that can lie in channel; Unfit() if view is no VIEW, NoPlace(channel)."""
    sight = _sight(net, times, view)
    _check_own(net, sight, channel)
    return sight.possible(channel)


def closed_by(net, times, view, channel):
    """The moment by which channel is closed if the PERSON wants it; Unfit() if view is no VIEW, NoPlace(channel)."""
    sight = _sight(net, times, view)
    _check_own(net, sight, channel)
    return sight.closing(channel)


def _are_lying(net, sight, thing):
    """Whether thing is what a CASE tells as its sheets."""
    if not is_tuple_of(thing, len(net)):
        return False
    for channel in range(len(net)):
        page = thing[channel]
        if channel not in sight.own_sides:
            if page is not None:
                return False
        elif not is_sheet(net, page) or page not in sight.possible(channel):
            return False
    return True


def _is_opened_set(net, sight, sheets, thing):
    """Whether thing is what a CASE with sheets tells as opened."""
    if not isinstance(thing, tuple):
        return False
    if not all([is_tuple_of(part, 2) and is_below(part[0], len(net)) and is_image(part[1]) for part in thing]):
        return False
    own = laid(sight, _own_pages(sheets)).own_parts()
    must = [part.pair for part in own if part.opened]
    may = [part.pair for part in own if part.in_question]
    if thing != ascending(thing) or not all([pair in must or pair in may for pair in thing]):
        return False
    return all([pair in thing for pair in must])


def _own_pages(sheets):
    """The list of the SHEETS of a CASE."""
    return [page for page in sheets if page is not None]


def _is_case(net, sight, thing):
    """is_case for a Sight."""
    if not is_tuple_of(thing, 2) or not _are_lying(net, sight, thing[0]):
        return False
    return _is_opened_set(net, sight, thing[0], thing[1])


def is_case(net, times, view, thing):
    """Whether thing is a CASE, (sheets, opened); Unfit() if view is no VIEW."""
    return _is_case(net, _sight(net, times, view), thing)


def worth_of(net, times, view, case):
    """The worth of case; Unfit() if view is no VIEW or case no CASE."""
    sight, there = _sight(net, times, view), frozen(case)
    if not _is_case(net, sight, there):
        raise Unfit()
    sheets, opened = _own_pages(there[0]), there[1]
    worth = sum([sight.sum_of(page) for page in sheets])
    for stake in laid(sight, sheets).all_stakes():
        worth += stake.worth([part for part in stake.own if part.pair in opened])
    return worth


def worst_case(net, times, view):
    """A CASE of least worth; Unfit() if view is no VIEW."""
    sight = _sight(net, times, view)
    table = laid(sight, Search(sight).pages)
    pages = {page[0]: page for page in table.pages}
    opened = [part.pair for stake in table.all_stakes() for part in stake.worst()]
    return (tuple([pages.get(channel) for channel in range(len(net))]), ascending(opened))


def due_in(net, times, view):
    """What is due; Unfit() if view is no VIEW."""
    return Search(_sight(net, times, view)).least


def due(world, person):
    """What is due to a steady PERSON in world; Unfit() for one of the rest."""
    return due_in(world[0], world[1], view_of(world, person))
