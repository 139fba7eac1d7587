"""What the tests share: forms of arguments, calls in every way that is allowed, bent values."""

import copy
import inspect


def listed(value):
    """The value with lists for all its tuples."""
    if isinstance(value, (list, tuple)):
        return [listed(part) for part in value]
    return value


def listed_outside(value):
    """The value with a list for its outermost tuple alone."""
    return list(value) if isinstance(value, tuple) else value


def listed_inside(value):
    """The value with lists for all its tuples but the outermost one."""
    return tuple(listed(part) for part in value) if isinstance(value, tuple) else value


def listed_deepest(value):
    """The value with lists for those of its tuples that hold no tuple."""
    if not isinstance(value, tuple):
        return value
    if any(isinstance(part, tuple) for part in value):
        return tuple(listed_deepest(part) for part in value)
    return list(value)


FORMS = (lambda value: value, listed, listed_outside, listed_inside, listed_deepest)


def shape(value):
    """A text in which True is not 1 and a list is no tuple."""
    return repr(value)


def outcome(function, *args, **named):
    """What a call gives, or the error that it raises, as a text."""
    try:
        return shape(function(*args, **named))
    except (LookupError, ValueError) as error:
        return f"raises {error.__class__.__name__}({shape(vars(error))})"


def outcomes(test, function, args, strict=("thing",)):
    """The one outcome of calls by position and by name, with tuples and lists, all done twice."""
    names = list(inspect.signature(function).parameters)
    test.assertEqual(len(names), len(args), function.__name__)
    told = outcome(function, *args)
    for form in FORMS:
        formed = [arg if name in strict else form(arg) for name, arg in zip(names, args)]
        kept = copy.deepcopy(formed)
        for _ in (1, 2):
            test.assertEqual(outcome(function, *formed), told, (function.__name__, formed))
            test.assertEqual(outcome(function, **dict(zip(names, formed))), told, (function.__name__, formed))
            test.assertEqual(shape(formed), shape(kept), function.__name__)
        # Only the last ones by name.
        test.assertEqual(outcome(function, *formed[:1], **dict(zip(names[1:], formed[1:]))), told)
    return told


def check_gives(test, function, args, expected):
    test.assertEqual(outcomes(test, function, args), shape(expected), (function.__name__, args))


def check_raises(test, function, args, error):
    expected = f"raises {error.__class__.__name__}({shape(vars(error))})"
    test.assertEqual(outcomes(test, function, args), expected, (function.__name__, args))


def nested(levels, inner=0, kind=tuple):
    """A value that is nested so many levels deep."""
    value = inner
    for _ in range(levels):
        value = kind([value])
    return value


DEEP = (nested(100), nested(99, "image"), nested(100, True, list), nested(98, (1, "close", None)))

# None of these can stand for a number anywhere, nor for a tuple.
NO_NUMBER = (True, False, None, "", "7", "image", -1, -(10 ** 30), [], [1], {}, ()) + DEEP
NO_TUPLE = (True, False, None, 0, 1, "", "ab", "image", -1, [], ()) + DEEP
NO_WORD = (True, None, 0, "", "Image", "images", "open", ["image"], ("image",), ("close",), DEEP[0])


def put(value, path, part):
    """The value with part at path, a row of places."""
    if not path:
        return part
    at = path[0]
    return value[:at] + (put(value[at], path[1:], part),) + value[at + 1:]


def paths(value, path=()):
    """The pairs (path, part) of all parts of value, itself too."""
    yield path, value
    if isinstance(value, tuple):
        for at, part in enumerate(value):
            yield from paths(part, path + (at,))


def wrong_kinds(value):
    """Values that are value but for one part that is of a wrong kind, or one None too much: never right."""
    for path, part in paths(value):
        if isinstance(part, tuple):
            yield put(value, path, list(part))
            yield put(value, path, listed(part))
            yield put(value, path, part + (None,))
            yield put(value, path, (None,) + part)
            for other in (True, False, 0, 1, "", "ab", -1) + DEEP:
                yield put(value, path, other)
        elif isinstance(part, bool):
            for other in NO_NUMBER + (0, 1):
                if not isinstance(other, bool):
                    yield put(value, path, other)
        elif isinstance(part, int):
            for other in NO_NUMBER:
                yield put(value, path, other)
        elif isinstance(part, str):
            for other in NO_WORD:
                yield put(value, path, other)


def bends(value):
    """Values that are value but for one part: right ones may be among them."""
    yield from wrong_kinds(value)
    for path, part in paths(value):
        if isinstance(part, tuple):
            yield put(value, path, ())
            yield put(value, path, None)
            for at in range(len(part)):
                yield put(value, path, part[:at] + part[at + 1:])
                yield put(value, path, part[:at] + (part[at], part[at]) + part[at + 1:])
            yield put(value, path, part[::-1])
        elif isinstance(part, int):
            for other in (part + 1, part - 1, 0, 1, 2, 10 ** 6 + 1, 10 ** 30):
                yield put(value, path, other)
        elif part is None:
            for other in (True, False, 0, "", (), [], (None,), DEEP[0]):
                yield put(value, path, other)
