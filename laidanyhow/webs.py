"""The web: the NODES as CELLS, tied wherever their LOTS hold each other [23]."""

from laidanyhow.arising import arising
from laidanyhow.errors import NoPick
from laidanyhow.nets import lot_of, mask_of, net_of, pinned, reached, reaches_of, settled


def web_lots(world):
    return {(mark, lot): lot for mark, lots in arising(world).items() for lot in lots}


def web_ties(world):
    return web_of(world)[1]


def web_of(world):
    """Return the ascending tuple of all NODES, web_ties, and the NET of the WEB, whose PLACES are the NODES."""
    found = arising(world)
    rows = {mark: [((mark, lot), mask_of(world, lot)) for lot in found[mark]] for mark in found}
    reaches = reaches_of(world)
    ties = []
    for tie in world[3]:
        kind, begin, end = tie
        onwards, back = reaches[kind]
        for one, mask in rows[begin]:
            mates = reached(onwards, mask)
            # They hold each other: each TILE of the one is reached from the other, and the other way about.
            held = [node for node, far in rows[end] if mask & reached(back, far) == mask and far & mates == far]
            ties.extend([(tie, one, other) for other in held])
    nodes = tuple([(mark, lot) for mark in found for lot in found[mark]])
    places = {node: place for place, node in enumerate(nodes)}
    net = net_of(world, len(nodes), [(tie[0], places[one], places[other]) for tie, one, other in ties])
    return nodes, tuple(ties), net


def web_masks(world, nodes):
    """Return the MASKS of the LOTS of the NODES."""
    return [mask_of(world, lot) for mark, lot in nodes]


def lots_left(world, nodes, masks):
    """Return the WEB LOTS that MASKS tell, None for None."""
    if masks is None:
        return None
    return {node: lot_of(world, mask) for node, mask in zip(nodes, masks)}


def web_look(world, lots):
    nodes, _, net = web_of(world)
    return lots_left(world, nodes, settled(net, [mask_of(world, lots[node]) for node in nodes]))


def web_led(world, picks):
    nodes, _, net = web_of(world)
    return lots_left(world, nodes, led_masks(world, nodes, net, picks))


def led_masks(world, nodes, net, picks):
    """Return what is left of the WEB behind WEB PICKS, as web_led does."""
    masks = web_masks(world, nodes)
    for index, (node, tile) in enumerate(picks):
        place = nodes.index(node)
        bit = mask_of(world, (tile,))
        behind = pinned(net, masks, place, bit) if masks[place] & bit > 0 else None
        if behind is None:
            raise NoPick(index)
        masks = behind
    return masks
