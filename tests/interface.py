"""The interface of the files that have landed, as the document lists it."""

SHEETS = """
is_person(thing), is_times(thing), is_channel(thing), is_net(thing), is_image(thing), is_lock(thing),
is_sheet(net, thing), look_at(times, moment), look_by(times, moment), person_of(net, channel, side),
side_of(net, channel, person), channels_of(net, person), first_sheet(net, channel), total(sheet), image_of(secret),
lock_of(sheet, image), is_opened(lock, shown), has(sheet, shown, side)
"""

LEDGER = """
is_deed(net, thing), is_ledger(net, thing), persons(net), begun_ledger(net),
does(net, ledger, times, moment, deed, sealed), comes(net, ledger, times, moment, row, sealed),
ledgers_along(net, times, rows, sealed), lies(ledger, channel), opened_in(ledger, channel),
is_settled(ledger, times, channel, moment), has_in(net, ledger, channel), ends_with(net, ledger, times, moment)
"""

SETTLING = """
state_of(ledger, times, channel, moment), alone(ledger, times, channel), still_open(ledger, times, moment),
surely_by(ledger, times, channel, moment, sealed), late_row(ledger, times, channel, moment, sealed),
is_late(net, ledger, times, channel, moment, sealed, thing),
between(net, ledger, times, channel, moment, sealed, secrets), all_by(ledger, times, moment, sealed)
"""


def functions_of(text):
    """The dict of the names of the functions and the lists of their arguments."""
    found = {}
    for part in " ".join(text.split()).rstrip(")").split("), "):
        name, args = part.split("(")
        found[name] = args.split(", ")
    return found


FILES = {"sheets": functions_of(SHEETS), "ledger": functions_of(LEDGER), "settling": functions_of(SETTLING)}
