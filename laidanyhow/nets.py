"""Nets: LANDS and webs as lists of numbers, on which the LOOK can be gone through many times.

A MASK is a LOT as a number: its bit with the index i is 1 if the LOT has the TILE with this index in the WORLD.
MASKS are a list with a MASK for each PLACE, which is a CELL or a NODE, told by its index. A NET is a list with, for
each PLACE, the list of its LINKS (other, reach), two for each TIE, one from each end: reached(reach, mask) is the MASK
of the TILES that, standing at the PLACE other, fit some TILE of the MASK at this one. MASKS are SETTLED if nothing can
be struck.
"""

from laidanyhow.looks import first_lots
from laidanyhow.worlds import kinds_of, partners, partners_ahead


def mask_of(world, lot):
    return sum([1 << index for index, tile in enumerate(world[0]) if tile in lot])


def lot_of(world, mask):
    return tuple([tile for index, tile in enumerate(world[0]) if mask >> index & 1])


def bits_of(mask):
    """Return the ascending list of the MASKS of one TILE that make up this one."""
    return [1 << index for index in range(mask.bit_length()) if mask >> index & 1]


def net_of(world, many, ties):
    """Return the NET of so many PLACES and of the TIES (kind, one, other) between them."""
    reaches = reaches_of(world)
    net = [[] for _ in range(many)]
    for kind, one, other in ties:
        onwards, back = reaches[kind]
        net[one].append((other, onwards))
        net[other].append((one, back))
    return net


def reaches_of(world):
    """Return the dict from all KINDS to tuples (onwards, back) of what reached takes.

    Onwards lead to the TILES that, as second ones, fit some TILE of a MASK, back to those that fit some as first ones.
    """
    found = {}
    for kind in kinds_of(world):
        onwards = [mask_of(world, partners(world, kind, tile)) for tile in world[0]]
        back = [mask_of(world, partners_ahead(world, kind, tile)) for tile in world[0]]
        found[kind] = (_reach(onwards), _reach(back))
    return found


def _reach(mates):
    """Return the dict from the MASKS of one TILE each to those of their mates."""
    return {1 << index: mate for index, mate in enumerate(mates)}


def reached(reach, mask):
    """Return the MASK of the mates of all TILES of this one."""
    # In a WORLD of many TILES there are too many MASKS to put them all in at once.
    if mask not in reach:
        mates = 0
        for bit in bits_of(mask):
            mates = mates | reach[bit]
        reach[mask] = mates
    return reach[mask]


def land_net(world, land):
    """Return the NET of a LAND, whose PLACES are the CELLS in ascending order."""
    places = {cell: place for place, (cell, mark) in enumerate(land[0])}
    return net_of(world, len(places), [(kind, places[one], places[other]) for kind, one, other in land[1]])


def land_masks(world, land, ahead):
    """Return the MASKS of what is told ahead for a LAND, not SETTLED yet."""
    return [mask_of(world, lot) for lot in first_lots(world, land, ahead).values()]


def settled(net, masks):
    """Return the MASKS that the LOOK leaves, None if it refuses."""
    left = list(masks)
    return left if _settle(net, left, list(range(len(left)))) is None else None


def pinned(net, masks, place, bit):
    """Return what the LOOK leaves of SETTLED MASKS behind a PICK, None if it refuses."""
    left = _with_pick(masks, place, bit)
    return left if _settle(net, left, [place]) is None else None


def _with_pick(masks, place, bit):
    left = list(masks)
    left[place] = bit
    return left


def _settle(net, masks, waiting):
    """Strike in the MASKS themselves what the waiting PLACES leave no mate.

    Return the PLACE whose MASK would become empty, None if there is none.
    """
    while len(waiting) > 0:
        place = waiting.pop()
        mask = masks[place]
        for other, reach in net[place]:
            left = masks[other] & (reach[mask] if mask in reach else reached(reach, mask))
            if left == 0:
                return other
            if left != masks[other]:
                masks[other] = left
                # A LINK may lead back to its own PLACE, which then has to be gone through again.
                if other not in waiting:
                    waiting.append(other)
    return None


def first_picks(net, masks):
    """Go through the PLACES of SETTLED MASKS in order, pick in each one the first TILE that is not refused.

    Return the tuple of the MASKS behind these PICKS and of None, or of the PLACE at which each TILE is refused.
    """
    for place in range(len(masks)):
        behind = _first_pick(net, masks, place)
        if behind is None:
            return masks, place
        masks = behind
    return masks, None


def _first_pick(net, masks, place):
    bits = bits_of(masks[place])
    # Where only one TILE is left, picking it strikes nothing.
    if len(bits) == 1:
        return masks
    for bit in bits:
        behind = pinned(net, masks, place, bit)
        if behind is not None:
            return behind
    return None


def any_laying(net, masks):
    """Return MASKS of one TILE each, within any MASKS, that are a LAYING; None if there is none."""
    found, _ = searched(net, masks)
    return found


def searched(net, masks):
    """Return what any_laying returns, and the list of the WEIGHTS of the PLACES.

    The WEIGHT of a PLACE grows with each refusal there. Those with many are tried first, so that PLACES that have no
    part in what goes wrong are not tried again and again.
    """
    weights = [1] * len(masks)
    waiting = [(list(masks), list(range(len(masks))))]
    while len(waiting) > 0:
        left, changed = waiting.pop()
        refused = _settle(net, left, changed)
        if refused is not None:
            weights[refused] += 1
        else:
            place = place_to_try(left, weights)
            if place is None:
                return left, weights
            # What is put last is gone through first.
            for bit in reversed(bits_of(left[place])):
                waiting.append((_with_pick(left, place, bit), [place]))
    return None, weights


def place_to_try(masks, weights):
    """Return the PLACE with more than one TILE that has the fewest for its WEIGHT, None if there is none."""
    found = None
    fewest = 0
    for place, mask in enumerate(masks):
        if mask & (mask - 1) > 0:
            many = len(bits_of(mask))
            if found is None or many * weights[found] < fewest * weights[place]:
                found = place
                fewest = many
    return found
