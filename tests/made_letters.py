"""Made-up letters, wishes and plans, which need not fit any world."""

import made_up


def moments(make, many):
    return tuple(make.randint(0, 60) for _ in range(many))


def walk(make, of, least=0):
    route = tuple(make.randrange(len(of)) for _ in range(make.randint(least, 3)))
    return route, moments(make, len(route))


def letter(make, of, pages):
    word = make.choice(("offer", "agree", "turn", "secret", "pass"))
    channel = make.randrange(len(of))
    if word in ("offer", "agree"):
        return (word, make.choice(pages))
    if word == "pass":
        return (word, channel, ("image", make.randint(0, 9))) + walk(make, of)
    return (word, channel, make.randint(0, 10 ** make.randint(0, 11)))


def letters(make, of, pages, most=4):
    return tuple(letter(make, of, pages) for _ in range(make.randint(0, most)))


def wish(make, of):
    moment = make.randint(0, 500)
    if make.random() < 0.4:
        return (moment, ("leave", make.randrange(len(of))))
    route, ends = walk(make, of, 1)
    return (moment, ("pay", route, make.randint(1, 10 ** 6), ("image", make.randint(0, 9)), ends))


def wishes(make, of, most=4):
    return tuple(wish(make, of) for _ in range(make.randint(0, most)))


def choice(make, of, pages):
    row, sent = [], []
    for _ in range(make.randint(0, 3)):
        row.append(("late", make.randint(0, 9)) if make.random() < 0.5 else ("own", made_up.deed(make, of, pages)))
    for _ in range(make.randint(0, 3)):
        own = ("own", make.randint(0, 7), make.randint(0, 7), letter(make, of, pages))
        sent.append(("sent", make.randint(0, 9)) if make.random() < 0.5 else own)
    return (tuple(row), tuple(sent))


def plan(make, of, pages, most=4):
    return tuple(choice(make, of, pages) for _ in range(make.randint(0, most)))


def things(seed):
    """The dict with a thing for each kind of text."""
    make, of, times, pages, _ = made_up.world(seed)
    return {
        "net": of,
        "times": times,
        "sheet": make.choice(pages),
        "letters": letters(make, of, pages),
        "deeds": made_up.row(make, of, pages),
        "wishes": wishes(make, of),
        "plan": plan(make, of, pages),
    }
