"""Sections 13 and 15 told a second time: plans played by an own plain run, and what they take."""

import plain
import plain_dues
import plain_worlds


def played(world, thing):
    """The worlds of a plan; None if thing is none."""
    if thing.__class__ is not tuple:
        return None
    along = [world]
    for choice in thing:
        if not plain_worlds.is_choice(along[-1], choice):
            return None
        run = plain_worlds.Run.at(along[-1])
        run.step(choice)
        along.append(run.world())
    return along


def rows(along, plan):
    """The rows that come to the ledger."""
    return tuple(
        tuple(world[8][part[1]][1] if part[0] == "late" else part[1] for part in choice[0])
        for world, choice in zip(along, plan)
    )


def settled(world):
    """The registers of the channels that are settled, by channel."""
    net, times, _, moment, ledger = world[:5]
    books = plain.registers(net, times, (), ledger)
    return {channel: book for channel, book in enumerate(books) if book.settled(moment)}


def ends(world):
    net = world[0]
    told = {person: 0 for person in range(max(max(channel[:2]) for channel in net) + 1)}
    for channel, book in settled(world).items():
        for side in (0, 1):
            told[net[channel][side]] += book.sums()[side]
    return tuple(told.values())


def due(world, person):
    mind = [mind for mind in world[5] if mind[2] == person][0]
    return plain_dues.due(world[0], world[1], plain_worlds.view(world, mind))


def takes(world, plan):
    """From whom a plan takes."""
    along, found = played(world, plan), []
    for place, person in enumerate(world[2]):
        own = {at for at, channel in enumerate(world[0]) if person in channel[:2]}
        paid = [pair for one in along for pair in one[5][place][8] if pair[0] is None]
        if not paid and own <= set(settled(along[-1])):
            if any(due(one, person) > ends(along[-1])[person] for one in along):
                found.append(person)
    return tuple(found)


def is_taking(world, thing):
    return played(world, thing) is not None and takes(world, thing) != ()
