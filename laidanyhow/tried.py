"""Tries and picks: which TILES can stand, and rows of PICKS that come to grief [27]."""

from laidanyhow.errors import NoPick, NoTile, TooMany
from laidanyhow.lands import cells_of
from laidanyhow.layings import tiles_of
from laidanyhow.looks import look, look_on, picked
from laidanyhow.nets import bits_of, first_picks, land_masks, land_net, lot_of, pinned, settled

MOST_TOLD = 2000


def tried(world, land, ahead):
    net = land_net(world, land)
    masks = settled(net, land_masks(world, land, ahead))
    if masks is None:
        return None
    found = {}
    for place, cell in enumerate(cells_of(land)):
        # A TILE that was struck would be refused: to tell it alone strikes no less.
        able = [bit for bit in bits_of(masks[place]) if pinned(net, masks, place, bit) is not None]
        found[cell] = lot_of(world, sum(able))
    return found


def can_stand(world, land, ahead, cell, tile):
    lots = look(world, land, ahead)
    if lots is None or tile not in lots[cell]:
        return False
    return look_on(world, land, {**lots, cell: (tile,)}) is not None


def must_stand(world, land, ahead):
    found = tried(world, land, ahead)
    if found is None:
        return {}
    return {cell: found[cell][0] for cell in found if len(found[cell]) == 1}


def built(world, land, ahead):
    net = land_net(world, land)
    masks = settled(net, land_masks(world, land, ahead))
    if masks is None:
        raise NoTile(cells_of(land)[0])
    masks, stuck = first_picks(net, masks)
    if stuck is not None:
        raise NoTile(cells_of(land)[stuck])
    return tiles_of(world, land, masks)


def led(world, land, ahead, picks):
    lots = look(world, land, ahead)
    told = {cell: ahead[cell] for cell in sorted(ahead)}
    for index, (cell, tile) in enumerate(picks):
        if lots is None or tile not in lots[cell]:
            raise NoPick(index)
        lots = look_on(world, land, {**lots, cell: (tile,)})
        told = picked(told, (cell, tile))
    return told


def grief(world, land, ahead):
    net = land_net(world, land)
    cells = cells_of(land)
    masks = settled(net, land_masks(world, land, ahead))
    states = [] if masks is None else [(masks, ())]
    free = [place for place, cell in enumerate(cells) if len(ahead.get(cell, ())) != 1]
    many = len(states)
    calm = {}
    while len(states) > 0:
        for masks, row in states:
            pick = _stuck_pick(net, masks, calm)
            if pick is not None:
                return tuple([(cells[place], lot_of(world, bit)[0]) for place, bit in (*row, pick)])
        states = _states_behind(net, states, free, MOST_TOLD - many)
        many += len(states)
    return None


def _stuck_pick(net, masks, calm):
    """Return a PICK (place, bit) that SETTLED MASKS let and that is STUCK, None if there is none.

    calm is a dict whose keys are MASKS that are known to have none.
    """
    key = tuple(masks)
    if key in calm:
        return None
    for place, mask in enumerate(masks):
        # The only TILE of a LOT strikes nothing if it is picked.
        if mask & (mask - 1) > 0:
            for bit in bits_of(mask):
                if pinned(net, masks, place, bit) is None:
                    return (place, bit)
    calm[key] = True
    return None


def _states_behind(net, states, free, most):
    """Return the list of the STATES of the next round; raise TooMany if they are more than most.

    A STATE is a tuple of SETTLED MASKS and of the PICKS that led to them. As none of these is STUCK, any order of them
    is LET: so only the ascending ones are gone through.
    """
    later = []
    for masks, row in states:
        for place in free:
            if row == () or place > row[-1][0]:
                for bit in bits_of(masks[place]):
                    later.append((pinned(net, masks, place, bit), (*row, (place, bit))))
                if len(later) > most:
                    raise TooMany(MOST_TOLD)
    return later
