"""What all files share: judging plain values, places, and lists given for tuples."""

from suredue.errors import NoPlace


def is_number(thing):
    """Whether thing is a number."""
    # Python takes True and False for ints; here they are no numbers.
    return isinstance(thing, int) and not isinstance(thing, bool)


def is_from(thing, least):
    """Whether thing is a number that is at least least."""
    return is_number(thing) and thing >= least


def is_below(thing, many):
    """Whether thing is one of the numbers from 0 that are below many: a place in a row of so many."""
    return is_from(thing, 0) and thing < many


def is_tuple_of(thing, many):
    """Whether thing is a tuple of so many parts."""
    return isinstance(thing, tuple) and len(thing) == many


def are_from(thing, least):
    """Whether thing is a tuple, maybe (), of numbers that are at least least."""
    return isinstance(thing, tuple) and all([is_from(part, least) for part in thing])


def are_unlike(values):
    """Whether no two of values, numbers or strings, are equal."""
    return len(set(values)) == len(values)


def is_written(part, most):
    """Whether part is a number as it is written, in at most most figures."""
    # Python takes figures of other scripts for digits, too.
    if not 1 <= len(part) <= most or not all([sign in "0123456789" for sign in part]):
        return False
    return part == "0" or part[0] != "0"


def frozen(value):
    """The value with a tuple for each list in it, at any depth."""
    # Results are made of tuples, and a list never equals a tuple, so whatever is compared or returned comes here first.
    if isinstance(value, (list, tuple)):
        return tuple([frozen(part) for part in value])
    return value


def at_place(row, place):
    """What row has at this place; NoPlace(place) if it has none such."""
    # Python would count a place below 0 from the end.
    if not 0 <= place < len(row):
        raise NoPlace(place)
    return row[place]


def with_part(row, place, part):
    """The tuple row with part at this place."""
    return row[:place] + (part,) + row[place + 1:]


def is_set_from(thing, least):
    """Whether thing is a set of numbers that are at least least."""
    return are_from(thing, least) and thing == ascending(thing)


def ascending(values):
    """The set of values: an ascending tuple without duplicates."""
    return tuple(sorted(set(values)))
