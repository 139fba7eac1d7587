"""The interface, as the document lists it."""

SHEETS = """
is_person(thing), is_times(thing), is_channel(thing), is_net(thing), is_image(thing), is_lock(thing),
is_sheet(net, thing), look_at(times, moment), look_by(times, moment), person_of(net, channel, side),
side_of(net, channel, person), channels_of(net, person), first_sheet(net, channel), total(sheet), image_of(secret),
lock_of(sheet, image), is_opened(lock, shown), has(sheet, shown, side)
"""

LEDGER = """
is_deed(net, thing), is_ledger(net, thing), persons(net), begun_ledger(net),
does(net, ledger, times, moment, deed, sealed), comes(net, ledger, times, moment, row, sealed),
ledgers_along(net, times, rows, sealed), lies(ledger, channel), opened_in(ledger, channel),
is_settled(ledger, times, channel, moment), has_in(net, ledger, channel), ends_with(net, ledger, times, moment)
"""

SETTLING = """
state_of(ledger, times, channel, moment), alone(ledger, times, channel), still_open(ledger, times, moment),
surely_by(ledger, times, channel, moment, sealed), late_row(ledger, times, channel, moment, sealed),
is_late(net, ledger, times, channel, moment, sealed, thing),
between(net, ledger, times, channel, moment, sealed, secrets), all_by(ledger, times, moment, sealed)
"""

LETTERS = """
is_letter(net, thing), channel_of(letter), net_text(net), times_text(times), sheet_text(sheet), letters_text(letters),
deeds_text(deeds), wishes_text(wishes), plan_text(plan), net_read(text), times_read(text), sheet_read(text),
letters_read(text), deeds_read(text), wishes_read(text), plan_read(text)
"""

OFFERS = """
is_change(thing), is_book(net, thing), changed(sheet, side, change), change_of(sheet, side, other),
begun_book(net, channel, side), in_turn(book), wanting(book, change), wanting_just(book, changes), taken(book, letter),
book_at_look(book), exposed(book), go_together(book, far)
"""

CLOCKS = """
least_wait(delay, look), enough_wait(times), show_by(times, end), close_by(times, end), in_time(times, moment, end),
least_in_end(times, out_end), enough_gap(times, in_end, out_end), go_by(times, in_end, out_end),
least_ends(times, many, last), begin_by(times, ends), settled_by(times, moment, ends)
"""

WATCH = """
is_watcher(thing), next_look(watcher, moment), answered_at(watchers, moment), wait_wanted(watchers),
worst_moment(watchers), is_enough(watchers, wait), needless(watchers), fewest(watchers, wait),
too_little(watchers, wait), is_too_little(watchers, wait, thing),
ledger_behind(net, times, elder, newest, moment, watchers, lates)
"""

RULES = """
worth(keep, side, sheet), loss(keep, side, sheet, change), gives(keep, side, sheet, change),
may_open(times, moment, side, image, sheets, opened), passes(times, moment, gap, lock, out),
answer(times, moment, gap, keep, lock, onward)
"""

MINDS = """
begun_mind(net, times, person, wishes, asks, cares), at_look(mind, moment, ledger, box), held_by(mind), given_by(mind),
known_by(mind)
"""

ROUTES = """
is_route(net, payer, thing), walked(net, payer, route), sides(net, payer, route),
payment_locks(net, payer, route, amount, image, ends), most_over(net, sheets, payer, route),
routes(net, payer, payee, most), routes_for(net, sheets, payer, payee, amount, most), shortest(net, payer, payee),
best_route(net, sheets, payer, payee, amount), widest(net, sheets, payer, payee), are_safe(times, ends),
last_looks(times, ends), wish_for(times, route, amount, secret, moment, last)
"""

WORLDS = """
begun_world(net, times, steady, wishes, asks, cares), forced(world), can_do(world, deed), is_choice(world, thing),
next_world(world, choice), quiet(world), swift(world), sealed_in(world, channel), view_of(world, person)
"""

PAYMENTS = """
people_on(net, payer, route), runs(sheets, image), fates(sheets, place, moment, image),
tally(sheets, place, moment, image), tallies_of(world, image), wished(wishes, image), asked(asks, image),
breaches(steady, wishes, asks, tallies, image)
"""

NETS = """
most_paid(net, sheets, payer, payee), payments(net, sheets, payer, payee, amount),
are_payments(net, sheets, payer, payee, thing), sums_behind(net, sheets, payer, row), held_out(net, sheets, persons),
bar(net, sheets, payer, payee), is_bar(net, sheets, payer, payee, thing),
most_without(net, sheets, payer, payee, persons), needed(net, sheets, payer, payee), locked_sums(net, sheets, person)
"""

DUES = """
is_view(net, thing), can_lie(net, times, view, channel), closed_by(net, times, view, channel),
is_case(net, times, view, thing), worth_of(net, times, view, case), worst_case(net, times, view),
due_in(net, times, view), due(world, person)
"""

GAMES = """
is_game(thing), is_game_plan(game, thing), ended(game, plan), least_end(game), worst_plan(game), is_safe(game),
wait_tried(delay, look), in_end_tried(times, out_end)
"""

PLANS = """
is_plan(world, thing), first_unfit(world, choices), played(world, plan), played_out(world, plan), rows_of(world, plan),
quiet_plan(world, many), swift_plan(world, many), ends_of(world, plan), dues_along(world, plan, person),
falls(world, plan, person)
"""

TAKINGS = """
taking(kind, delay, look), takes_from(world, plan), is_taking(world, thing)
"""

JUDGE = """
is_claim(thing), is_so(claim), paper(claim), is_paper_for(claim, thing), is_paper_against(claim, thing),
verdicts(claims, things), comes_of(claim, claims), first_false(claims)
"""

SHELL = """
shell(text), is_request(thing)
"""


def functions_of(text):
    """The dict of the names of the functions and the lists of their arguments."""
    found = {}
    for part in " ".join(text.split()).rstrip(")").split("), "):
        name, args = part.split("(")
        found[name] = args.split(", ")
    return found


FILES = {
    "sheets": functions_of(SHEETS),
    "ledger": functions_of(LEDGER),
    "settling": functions_of(SETTLING),
    "letters": functions_of(LETTERS),
    "offers": functions_of(OFFERS),
    "clocks": functions_of(CLOCKS),
    "watch": functions_of(WATCH),
    "rules": functions_of(RULES),
    "minds": functions_of(MINDS),
    "routes": functions_of(ROUTES),
    "worlds": functions_of(WORLDS),
    "payments": functions_of(PAYMENTS),
    "nets": functions_of(NETS),
    "dues": functions_of(DUES),
    "games": functions_of(GAMES),
    "plans": functions_of(PLANS),
    "takings": functions_of(TAKINGS),
    "judge": functions_of(JUDGE),
    "shell": functions_of(SHELL),
}
