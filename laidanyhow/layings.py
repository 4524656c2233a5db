"""Layings, and trees that show that there is none [19]."""

from laidanyhow.errors import TooMany
from laidanyhow.forms import is_row, is_tiling
from laidanyhow.lands import cells_of
from laidanyhow.looks import first_lots, picked
from laidanyhow.nets import any_laying, bits_of, first_picks, land_masks, land_net, lot_of, pinned
from laidanyhow.nets import place_to_try, searched, settled
from laidanyhow.strikes import is_refusal, refusal
from laidanyhow.worlds import fits


def is_laying(world, land, ahead, thing):
    if not is_tiling(world, land, thing):
        return False
    lots = first_lots(world, land, ahead)
    if not all([thing[cell] in lots[cell] for cell in lots]):
        return False
    return all([fits(world, kind, thing[one], thing[other]) for kind, one, other in land[1]])


def least_laying(world, land, ahead):
    net = land_net(world, land)
    masks = settled(net, land_masks(world, land, ahead))
    if masks is None:
        return None
    left, stuck = first_picks(net, masks)
    if stuck is not None:
        left = _least_masks(net, masks)
    return None if left is None else tiles_of(world, land, left)


def _least_masks(net, masks):
    """Return the MASKS of the least LAYING within SETTLED MASKS, None if there is none."""
    known = any_laying(net, masks)
    if known is None:
        return None
    for place in range(len(masks)):
        # What is known need only be beaten: no TILE beyond the one that it has here can be the least.
        for bit in bits_of(masks[place] & (known[place] - 1)):
            behind = pinned(net, masks, place, bit)
            less = None if behind is None else any_laying(net, behind)
            if less is not None:
                known = less
                break
        masks = pinned(net, masks, place, known[place])
    return known


def tiles_of(world, land, masks):
    """Return the dict from all CELLS to the TILES that MASKS of one TILE each tell."""
    return {cell: lot_of(world, mask)[0] for cell, mask in zip(cells_of(land), masks)}


def all_layings(world, land, ahead, most):
    net = land_net(world, land)
    first = settled(net, land_masks(world, land, ahead))
    waiting = [] if first is None else [first]
    found = []
    while len(waiting) > 0:
        masks = waiting.pop()
        wide = [place for place, mask in enumerate(masks) if mask & (mask - 1) > 0]
        if len(wide) > 0:
            behind = [pinned(net, masks, wide[0], bit) for bit in bits_of(masks[wide[0]])]
            # What is put last is gone through first, and so must be the least.
            waiting.extend([left for left in reversed(behind) if left is not None])
        else:
            found.append(tiles_of(world, land, masks))
            if len(found) > most:
                raise TooMany(most)
    return found


def no_laying(world, land, ahead):
    net = land_net(world, land)
    found, weights = searched(net, land_masks(world, land, ahead))
    return _tree(world, land, ahead, net, weights) if found is None else None


def _tree(world, land, ahead, net, weights):
    """Return a TREE for a LAND with this NET that has no LAYING."""
    masks = settled(net, land_masks(world, land, ahead))
    if masks is None:
        return ("struck", refusal(world, land, ahead))
    cell = cells_of(land)[place_to_try(masks, weights)]
    branches = []
    for tile in ahead.get(cell, world[0]):
        branches.append((tile, _tree(world, land, picked(ahead, (cell, tile)), net, weights)))
    return ("tried", cell, tuple(branches))


def is_no_laying(world, land, ahead, thing):
    waiting = [(ahead, thing)]
    while len(waiting) > 0:
        told, tree = waiting.pop()
        if _is_tried(world, land, told, tree):
            waiting.extend([(picked(told, (tree[1], tile)), branch) for tile, branch in tree[2]])
        elif not (is_row(tree, 2) and tree[0] == "struck" and is_refusal(world, land, told, tree[1])):
            return False
    return True


def _is_tried(world, land, ahead, thing):
    """Tell whether any value has the form of a TREE that tries each TILE at a CELL, whatever its branches are."""
    if not is_row(thing, 3) or thing[0] != "tried" or thing[1] not in cells_of(land):
        return False
    _, cell, branches = thing
    if not isinstance(branches, tuple) or not all([is_row(branch, 2) for branch in branches]):
        return False
    return tuple([tile for tile, tree in branches]) == ahead.get(cell, world[0])
