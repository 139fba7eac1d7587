"""Offers: how two people agree on sheets, however their letters are lost, held and doubled."""

from suredue.errors import CanNot, Unfit
from suredue.sheets import first_sheet, is_image, is_lock, is_sheet, lock_of
from suredue.values import frozen, is_below, is_tuple_of, with_part

MOST_LOCKS = 8


def is_change(thing):
    """Whether thing is a CHANGE."""
    if is_tuple_of(thing, 1):
        return thing[0] == "pass"
    if not is_tuple_of(thing, 2):
        return False
    if thing[0] == "add":
        return is_lock(thing[1])
    return thing[0] in ("pay", "drop") and is_image(thing[1])


def _with_lock(sheet, side, lock):
    """The SHEET of the next number to which side adds lock; Unfit() if it can't."""
    channel, number, sums, locks = sheet
    if lock[0] != side or sums[side] < lock[1] or lock_of(sheet, lock[2]) is not None or len(locks) >= MOST_LOCKS:
        raise Unfit()
    return (channel, number + 1, with_part(sums, side, sums[side] - lock[1]), locks + (lock,))


def _without_lock(sheet, payer, taker, image):
    """The SHEET of the next number without payer's LOCK of image, its amount being taker's; Unfit() if it can't be."""
    channel, number, sums, locks = sheet
    lock = lock_of(sheet, image)
    if lock is None or lock[0] != payer:
        raise Unfit()
    left = tuple([other for other in locks if other != lock])
    return (channel, number + 1, with_part(sums, taker, sums[taker] + lock[1]), left)


def changed(sheet, side, change):
    """The SHEET that comes of sheet by change, which side offers; Unfit() if change can't be done."""
    page, what = frozen(sheet), frozen(change)
    if what[0] == "add":
        return _with_lock(page, side, what[1])
    if what[0] == "pay":
        return _without_lock(page, side, 1 - side, what[1])
    if what[0] == "drop":
        return _without_lock(page, 1 - side, 1 - side, what[1])
    return (page[0], page[1] + 1, page[2], page[3])


def _comes_by(sheet, side, change, other):
    """Whether other comes of sheet by change, which side offers."""
    try:
        return changed(sheet, side, change) == other
    except Unfit:
        return False


def change_of(sheet, side, other):
    """The CHANGE by which other comes of sheet, side offering it; CanNot() if there is none."""
    page, behind = frozen(sheet), frozen(other)
    changes = [("pass",)] + [("add", lock) for lock in behind[3][-1:]]
    changes += [("pay" if lock[0] == side else "drop", lock[2]) for lock in page[3]]
    for change in changes:
        if _comes_by(page, side, change, behind):
            return change
    raise CanNot()


def _comes_of(sheet, side, other):
    """Whether other comes of sheet by a CHANGE that side offers."""
    try:
        change_of(sheet, side, other)
    except CanNot:
        return False
    return True


def is_book(net, thing):
    """Whether thing is a BOOK: (channel, side, newest, offered, asked, wanted)."""
    if not is_tuple_of(thing, 6):
        return False
    channel, side, newest, offered, asked, wanted = thing
    if not is_below(channel, len(net)) or not is_below(side, 2) or not is_sheet(net, newest) or newest[0] != channel:
        return False
    if not isinstance(asked, bool) or not isinstance(wanted, tuple) or not all([is_change(part) for part in wanted]):
        return False
    if offered is None:
        return in_turn(thing) or not asked
    return not asked and in_turn(thing) and is_sheet(net, offered) and _comes_of(newest, side, offered)


def begun_book(net, channel, side):
    """The BOOK with SHEET 0 and nothing else; NoPlace(channel) if it is no place of net."""
    return (channel, side, first_sheet(net, channel), None, False, ())


def in_turn(book):
    """Whether the side of book is in turn."""
    return book[1] == (book[2][1] + 1) % 2


def wanting(book, change):
    """The BOOK that wants change last."""
    return wanting_just(book, tuple(book[5]) + (change,))


def wanting_just(book, changes):
    """The BOOK that wants changes alone."""
    return frozen(book)[:5] + (frozen(changes),)


def _renewed(book, sheet):
    """The BOOK whose newest SHEET is sheet."""
    return book[:2] + (sheet, None, False, book[5])


def _at_offer(book, sheet):
    """What taken gives for an offer of sheet."""
    _, side, newest = book[:3]
    if sheet == newest:
        return (book, (("agree", newest),))
    if not in_turn(book) and _comes_of(newest, 1 - side, sheet):
        return (_renewed(book, sheet), (("agree", sheet),))
    return (book, ())


def taken(book, letter):
    """The pair of the BOOK behind a LETTER of the other PERSON, and of the tuple of the LETTERS of answer."""
    before, told = frozen(book), frozen(letter)
    channel, _, newest, offered = before[:4]
    if told[0] == "offer":
        return _at_offer(before, told[1])
    if told[0] == "agree" and told[1] == offered:
        return (_renewed(before, offered), ())
    if told == ("turn", channel, newest[1]) and in_turn(before) and offered is None:
        return (with_part(before, 4, True), ())
    return (before, ())


def _first_that_fits(newest, side, wanted):
    """The place of the first of wanted that can be done; None if there is none."""
    for at in range(len(wanted)):
        try:
            changed(newest, side, wanted[at])
        except Unfit:
            continue
        return at
    return None


def book_at_look(book):
    """The pair of the BOOK behind a look and of the tuple of the LETTERS that it sends."""
    before = frozen(book)
    channel, side, newest, offered, asked, wanted = before
    if offered is not None:
        return (before, (("offer", offered),))
    if not in_turn(before):
        return (before, (("turn", channel, newest[1]),) if wanted != () else ())
    at = _first_that_fits(newest, side, wanted)
    if at is not None:
        sheet, left = changed(newest, side, wanted[at]), wanted[at + 1:]
    elif asked:
        sheet, left = changed(newest, side, ("pass",)), ()
    else:
        return (wanting_just(before, ()), ())
    return ((channel, side, newest, sheet, False, left), (("offer", sheet),))


def exposed(book):
    """The tuple of the SHEETS of book that its side has sealed and that may count."""
    _, _, newest, offered = frozen(book)[:4]
    return (newest,) if offered is None else (newest, offered)


def go_together(book, far):
    """Whether book and far are of both SIDES of one channel and at most one offer apart."""
    one, other = frozen(book), frozen(far)
    if one[0] != other[0] or one[1] == other[1]:
        return False
    return one[2] == other[2] or one[2] == other[3] or other[2] == one[3]
