"""Plans: what the rest does moment by moment, what comes of it, and what is due along it."""

from suredue.dues import due
from suredue.errors import Unfit
from suredue.ledger import ends_with
from suredue.values import frozen
from suredue.worlds import deeds_in, is_choice, next_world, quiet, swift


def _first_unfit(world, choices):
    """The place of the first of choices that is no CHOICE in the WORLD that came of those ahead; None if none is."""
    there = world
    for at in range(len(choices)):
        if not is_choice(there, choices[at]):
            return at
        there = next_world(there, choices[at])
    return None


def is_plan(world, thing):
    """Whether thing is a PLAN for world."""
    return isinstance(thing, tuple) and _first_unfit(world, thing) is None


def first_unfit(world, choices):
    """The place of the first of choices that is no CHOICE in its WORLD, lists being tuples; None if none is."""
    return _first_unfit(world, frozen(choices))


def _choices(plan):
    """The tuple of the CHOICES of plan; Unfit() if it is no tuple at all."""
    chosen = frozen(plan)
    if not isinstance(chosen, tuple):
        raise Unfit()
    return chosen


def played(world, plan):
    """The list of world and of the WORLDS behind each CHOICE of plan; Unfit() if it is no PLAN."""
    along = [frozen(world)]
    for choice in _choices(plan):
        along.append(next_world(along[-1], choice))
    return along


def played_out(world, plan):
    """The WORLD behind plan; Unfit() if it is no PLAN."""
    there = frozen(world)
    for choice in _choices(plan):
        there = next_world(there, choice)
    return there


def rows_of(world, plan):
    """The tuple of the ROWS that come to the ledger by plan; Unfit() if it is no PLAN."""
    along = played(world, plan)
    return tuple([deeds_in(there, choice[0]) for there, choice in zip(along, _choices(plan))])


def moved(world, many, choose):
    """The pair of the PLAN of so many CHOICES, each as the function choose tells it, and of the WORLD behind it."""
    there, plan = frozen(world), ()
    for _ in range(many):
        plan = plan + (choose(there),)
        there = next_world(there, plan[-1])
    return (plan, there)


def quiet_plan(world, many):
    """The PLAN of so many CHOICES, each of them quiet."""
    return moved(world, many, quiet)[0]


def swift_plan(world, many):
    """The PLAN of so many CHOICES, each of them swift."""
    return moved(world, many, swift)[0]


def ends_of(world, plan):
    """What each PERSON has in the channels that are settled behind plan; Unfit() if it is no PLAN."""
    last = played_out(world, plan)
    return ends_with(last[0], last[4], last[1], last[3])


def dues_along(world, plan, person):
    """The list of what is due to a steady PERSON in the WORLDS of played; Unfit() if it is no PLAN, or for others."""
    return [due(there, person) for there in played(world, plan)]


def falls(world, plan, person):
    """The set of the places of the CHOICES behind which less is due than ahead; Unfit() as dues_along."""
    dues = dues_along(world, plan, person)
    return tuple([at for at in range(len(dues) - 1) if dues[at + 1] < dues[at]])
