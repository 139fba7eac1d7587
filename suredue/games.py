"""Games: one steady person against the rest, without letters, small enough to be gone through whole."""

from suredue.clocks import close_by, enough_wait
from suredue.errors import CanNot, Unfit
from suredue.sheets import is_times, look_at
from suredue.values import are_from, frozen, is_from, is_number, is_tuple_of, with_part

# What can be on the way, and the channels, each by its place.
_WHATS = ("in", "out", "show")
_SHOW = 2


def is_game(thing):
    """Whether thing is a GAME."""
    if is_tuple_of(thing, 4):
        kind, times, shares, moments = thing
        return kind == "channel" and is_times(times) and are_from(shares, 0) and shares != () and is_from(moments, 0)
    if not is_tuple_of(thing, 6):
        return False
    kind, times, amount, in_end, out_end, moments = thing
    return kind == "middle" and is_times(times) and is_from(amount, 1) and are_from((in_end, out_end, moments), 0)


class Board:
    """A GAME. A state of it is a pair: what lies in each channel, and when what is on the way comes at the latest.

    A channel is None, as long as it is open, or (number, since, shown): since is None when its window is over, shown
    None, True if the SECRET was shown by the end of the LOCK there, False if later. A part of what is on the way is
    None if it is not. Nothing else of what was counts for what comes.
    """

    def __init__(self, game):
        self.times = game[1]
        self.moments = game[-1]
        self.is_middle = game[0] == "middle"
        self.amount = game[2] if self.is_middle else 0
        self.shares = () if self.is_middle else game[2]
        self.ends = game[3:5] if self.is_middle else (0,)
        self.newest = 1 if self.is_middle else len(game[2]) - 1
        self.whats = _WHATS if self.is_middle else _WHATS[:1]

    def begun(self):
        """The state behind the look of moment 0."""
        return self.looked(((None,) * len(self.ends), (None,) * len(self.whats)), 0)

    def aged(self, state, moment):
        """The state when moment begins."""
        lying = list(state[0])
        for place in range(len(lying)):
            entry = lying[place]
            if entry is not None and entry[1] is not None and entry[1] + self.times[2] < moment:
                lying[place] = (entry[0], None, entry[2])
        return (tuple(lying), state[1])

    def closed(self, state, moment, place, number):
        """The state behind a close of a channel with SHEET number."""
        entry = state[0][place]
        if entry is None:
            fresh = (number, moment, None)
        elif entry[0] < number and entry[1] is not None:
            fresh = (number, entry[1], entry[2])
        else:
            return state
        return (with_part(state[0], place, fresh), state[1])

    def shown(self, state, moment, place):
        """The state behind a show of the SECRET in a channel."""
        entry = state[0][place]
        if entry is None or entry[2] is not None:
            return state
        return (with_part(state[0], place, (entry[0], entry[1], moment <= self.ends[place])), state[1])

    def behind(self, state, moment, event):
        """The state behind an EVENT, in a ROW of moment."""
        if event[0] == "close":
            return self.closed(state, moment, _WHATS.index(event[1]), event[2])
        if event[0] == "show":
            return self.shown(state, moment, _WHATS.index(event[1]))
        place = _WHATS.index(event[1])
        come = (state[0], with_part(state[1], place, None))
        return self.shown(come, moment, 0) if place == _SHOW else self.closed(come, moment, place, self.newest)

    def can_come(self, state, moment, event):
        """Whether an EVENT can come in a ROW of moment."""
        if event[0] == "late":
            return state[1][_WHATS.index(event[1])] is not None
        return event[0] == "show" or moment + self.times[2] <= self.moments

    def is_done(self, state, moment):
        """Whether all that must come by moment has come."""
        return all([last is None or last > moment for last in state[1]])

    def replaces(self, state, moment, place):
        """Whether the steady one hands in its newest SHEET over a lower one."""
        entry = state[0][place]
        if entry is None or entry[1] is None:
            return False
        return entry[0] < self.newest and moment < entry[1] + self.times[2]

    def is_shown(self, state):
        """Whether the SECRET is shown anywhere."""
        return any([entry is not None and entry[2] is not None for entry in state[0]])

    def goes(self, state, moment):
        """Whether the steady one closes "in" by itself."""
        last = close_by(self.times, self.ends[0])
        if state[0][0] is not None or (last is not None and moment < last):
            return False
        return self.is_shown(state) or moment < look_at(self.times, self.ends[1])

    def shows(self, state, moment):
        """Whether the steady one shows the SECRET in "in"."""
        entry = state[0][0]
        return self.is_shown(state) and entry is not None and entry[2] is None and moment < self.ends[0]

    def wants(self, state, moment, place):
        """Whether the steady one hands in this at a look."""
        if place == _SHOW:
            return self.shows(state, moment)
        if place == 0 and self.is_middle and self.goes(state, moment):
            return True
        return self.replaces(state, moment, place)

    def looked(self, state, moment):
        """The state behind moment, when its ROW has come."""
        if moment % self.times[1] != 0:
            return state
        coming = list(state[1])
        for place in range(len(coming)):
            if coming[place] is None and self.wants(state, moment, place):
                coming[place] = moment + self.times[0]
        return (state[0], tuple(coming))

    def worth(self, state):
        """What the steady one has behind the last moment."""
        if not self.is_middle:
            entry = state[0][0]
            return self.shares[self.newest if entry is None else entry[0]]
        opened = [entry is not None and entry[0] == 1 and entry[2] is True for entry in state[0]]
        return (self.amount if opened[0] else 0) + (0 if opened[1] else self.amount)

    def events(self):
        """The list of all EVENTS that there are."""
        places = _WHATS[:len(self.ends)]
        closes = [("close", place, number) for place in places for number in range(self.newest + 1)]
        shows = [("show", place) for place in places] if self.is_middle else []
        return closes + shows + [("late", what) for what in self.whats]

    def is_event(self, thing):
        """Whether thing is an EVENT."""
        # Python takes True for 1.
        if is_tuple_of(thing, 3) and not is_number(thing[2]):
            return False
        return isinstance(thing, tuple) and thing in self.events()

    def behind_row(self, state, moment, row):
        """The state behind moment, if row comes; None if it is no ROW that can come."""
        there = self.aged(state, moment)
        if not isinstance(row, tuple):
            return None
        for event in row:
            if not self.is_event(event) or not self.can_come(there, moment, event):
                return None
            there = self.behind(there, moment, event)
        return self.looked(there, moment) if self.is_done(there, moment) else None

    def behind_plan(self, plan):
        """The state behind plan; None if it is no plan."""
        if not is_tuple_of(plan, self.moments):
            return None
        state = self.begun()
        for at in range(len(plan)):
            state = self.behind_row(state, at + 1, plan[at])
            if state is None:
                return None
        return state

    def next_layer(self, layer, moment):
        """All states behind moment, each with a state of layer and a ROW by which it comes of it."""
        found = {}
        for state in layer:
            found.setdefault(self.aged(state, moment), (state, ()))
        todo, events = list(found), self.events()
        while todo != []:
            state = todo.pop()
            before, row = found[state]
            for event in events:
                if self.can_come(state, moment, event):
                    fresh = self.behind(state, moment, event)
                    if fresh not in found:
                        found[fresh] = (before, row + (event,))
                        todo.append(fresh)
        seen = {}
        for state in found:
            if self.is_done(state, moment):
                seen.setdefault(self.looked(state, moment), found[state])
        return seen

    def layers(self):
        """The list of all states behind each moment, from 0 on, each with how it comes about."""
        layers = [{self.begun(): None}]
        for moment in range(1, self.moments + 1):
            layers.append(self.next_layer(layers[-1], moment))
        return layers


def _board(game):
    """The Board of game; Unfit() if it is no GAME."""
    there = frozen(game)
    if not is_game(there):
        raise Unfit()
    return Board(there)


def is_game_plan(game, thing):
    """Whether thing is a plan of game; Unfit() if game is no GAME."""
    return _board(game).behind_plan(thing) is not None


def ended(game, plan):
    """What the steady one has behind plan; Unfit() if game is no GAME or plan no plan of it."""
    board = _board(game)
    state = board.behind_plan(frozen(plan))
    if state is None:
        raise Unfit()
    return board.worth(state)


def least_end(game):
    """The least with which the steady one can end, over all plans; Unfit() if game is no GAME."""
    board = _board(game)
    return min([board.worth(state) for state in board.layers()[-1]])


def worst_plan(game):
    """A plan with which the steady one ends with the least; Unfit() if game is no GAME."""
    board = _board(game)
    layers = board.layers()
    state, plan = min(list(layers[-1]), key=board.worth), ()
    for layer in layers[:0:-1]:
        state, row = layer[state]
        plan = (row,) + plan
    return plan


def is_safe(game):
    """Whether the steady one ends with at least its newest share, or amount; Unfit() if game is no GAME."""
    board = _board(game)
    return least_end(game) >= (board.amount if board.is_middle else board.shares[-1])


def wait_tried(delay, look):
    """The least wait with which an elder SHEET can't stay, found by trying."""
    wait = 0
    while not is_safe(("channel", (delay, look, wait), (0, 1), look + wait)):
        wait += 1
    return wait


def in_end_tried(times, out_end):
    """The least end in with which out_end is safe, found by trying; CanNot() if the wait is too little for any."""
    if not enough_wait(times):
        raise CanNot()
    in_end = 0
    while not is_safe(("middle", times, 1, in_end, out_end, times[2] + max(in_end, out_end))):
        in_end += 1
    return in_end
