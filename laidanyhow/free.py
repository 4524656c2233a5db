"""Free WORLDS: whether anybody can ever be STUCK [25]."""

from laidanyhow.forms import are_picks
from laidanyhow.guides import has_guide, is_guide_of, node_tiles
from laidanyhow.looks import are_let, look, picked
from laidanyhow.nets import first_picks, mask_of, settled
from laidanyhow.webs import lots_left, web_masks, web_of


def beside_look(world, node, tile):
    nodes, _, net = web_of(world)
    return lots_left(world, nodes, _beside(world, nodes, net, nodes.index(node), mask_of(world, (tile,))))


def _beside(world, nodes, net, place, bit):
    """Return the MASKS that the LOOK leaves of the WEB BESIDE the NODE at this PLACE and the TILE of this bit.

    The CELL more has the LINKS of the NODE. As it has one TILE alone, it strikes all that it can strike at once.
    """
    masks = web_masks(world, nodes)
    for other, reach in net[place]:
        masks[other] = masks[other] & reach[bit]
    return None if 0 in masks else settled(net, masks)


def guide_beside(world, node, tile):
    nodes, _, net = web_of(world)
    masks = _beside(world, nodes, net, nodes.index(node), mask_of(world, (tile,)))
    if masks is None:
        return None
    # What is left at last is a GUIDE BESIDE them; where there is one, this never gets stuck [7].
    masks, stuck = first_picks(net, masks)
    return node_tiles(world, nodes, masks) if stuck is None else None


def is_beside(world, node, tile, thing):
    nodes, ties, _ = web_of(world)
    if not is_guide_of(world, nodes, ties, thing):
        return False
    tables = dict(world[1])
    behind = [(tile, thing[other]) in tables[tie[0]] for tie, one, other in ties if one == node]
    ahead = [(thing[one], tile) in tables[tie[0]] for tie, one, other in ties if other == node]
    return all(behind) and all(ahead)


def is_free(world):
    return bound_picks(world) == []


def bound_pick(world):
    found = bound_picks(world)
    return None if found == [] else found[0]


def bound_picks(world):
    """Return the ascending list of all tuples (node, tile) such that there is no GUIDE BESIDE them."""
    nodes, _, net = web_of(world)
    # If there is no GUIDE at all, there is none BESIDE anything.
    sure = has_guide(world, nodes, net)
    bound = []
    for place, node in enumerate(nodes):
        for tile in node[1]:
            if not sure or _beside(world, nodes, net, place, mask_of(world, (tile,))) is None:
                bound.append((node, tile))
    return bound


def is_stuck(world, land, ahead, thing):
    if not are_picks(world, land, thing) or thing == () or not are_let(world, land, ahead, thing):
        return False
    behind = ahead
    for pick in thing:
        behind = picked(behind, pick)
    return look(world, land, behind) is None
