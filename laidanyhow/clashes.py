"""Clashes: what cannot be told together, what to take back, and what is told by two [28]."""

from itertools import combinations

from laidanyhow.errors import NoForget, Refused, TooMany
from laidanyhow.forms import first_bad, itself
from laidanyhow.lands import cells_of, steps_from
from laidanyhow.looks import look
from laidanyhow.nets import land_masks, land_net, settled
from laidanyhow.rounds import forgets
from laidanyhow.worlds import common_tiles

MOST_TRIED = 2000


def least_clash(world, land, ahead):
    net = land_net(world, land)
    if settled(net, land_masks(world, land, ahead)) is not None:
        return None
    clash = {cell: ahead[cell] for cell in sorted(ahead)}
    for cell in sorted(ahead):
        rest = _left_out(clash, (cell,))
        if settled(net, land_masks(world, land, rest)) is None:
            clash = rest
    return clash


def _left_out(ahead, cells):
    """Return what is told ahead without these CELLS."""
    return {cell: ahead[cell] for cell in ahead if cell not in cells}


def is_clash(world, land, ahead, thing):
    if not isinstance(thing, dict) or not all([cell in ahead and thing[cell] == ahead[cell] for cell in thing]):
        return False
    net = land_net(world, land)
    if settled(net, land_masks(world, land, thing)) is not None:
        return False
    rests = [_left_out(thing, (cell,)) for cell in thing]
    return all([settled(net, land_masks(world, land, rest)) is not None for rest in rests])


def is_back(world, land, ahead, thing):
    if not isinstance(thing, tuple):
        return False
    if first_bad(thing, lambda cell: isinstance(cell, str) and cell in ahead, itself) is not None:
        return False
    return look(world, land, _left_out(ahead, thing)) is not None


def fewest_back(world, land, ahead):
    net = land_net(world, land)
    masks = land_masks(world, land, ahead)
    whole = land_masks(world, land, {})
    told = [place for place, cell in enumerate(cells_of(land)) if cell in ahead]
    many = 0
    # All of them together are the last ones to be tried, and without them nothing is left to refuse.
    for size in range(len(told) + 1):
        for places in combinations(told, size):
            if many == MOST_TRIED:
                raise TooMany(MOST_TRIED)
            many += 1
            left = list(masks)
            for place in places:
                left[place] = whole[place]
            if settled(net, left) is not None:
                return tuple([land[0][place][0] for place in places])


def joined(world, land, one, other):
    both = {}
    for cell in sorted({**one, **other}):
        both[cell] = common_tiles(one.get(cell, world[0]), other.get(cell, world[0]))
        if both[cell] == ():
            raise Refused()
    if look(world, land, both) is None:
        raise Refused()
    return both


def are_apart(world, land, one, other):
    number = forgets(world)
    if number is None:
        raise NoForget()
    steps = steps_from(land, tuple(sorted(one)))
    return all([steps[cell] >= 2 * number for cell in other if cell in steps])
