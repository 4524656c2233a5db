"""Guides, and bars, which show that there is none [24]."""

from laidanyhow.errors import NoGuide, NoPick, Refused
from laidanyhow.forms import is_row
from laidanyhow.looks import look
from laidanyhow.nets import first_picks, lot_of
from laidanyhow.webs import led_masks, web_masks, web_of


def guide(world):
    nodes, _, net = web_of(world)
    masks, stuck = first_picks(net, web_masks(world, nodes))
    tiles = node_tiles(world, nodes, masks)
    if stuck is not None:
        raise NoGuide((tuple([(node, tiles[node]) for node in nodes[:stuck]]), nodes[stuck]))
    return tiles


def node_tiles(world, nodes, masks):
    """Return the dict from all NODES to the first TILES of what the MASKS leave of their LOTS."""
    return {node: lot_of(world, mask)[0] for node, mask in zip(nodes, masks)}


def is_guide(world, thing):
    nodes, ties, _ = web_of(world)
    return is_guide_of(world, nodes, ties, thing)


def is_guide_of(world, nodes, ties, thing):
    """Tell the same as is_guide, of a WORLD that has these NODES and WEB TIES."""
    if not isinstance(thing, dict) or len(thing) != len(nodes):
        return False
    if not all([node in thing and thing[node] in node[1] for node in nodes]):
        return False
    tables = dict(world[1])
    return all([(thing[one], thing[other]) in tables[tie[0]] for tie, one, other in ties])


def is_sure(world):
    nodes, _, net = web_of(world)
    return has_guide(world, nodes, net)


def has_guide(world, nodes, net):
    _, stuck = first_picks(net, web_masks(world, nodes))
    return stuck is None


def is_bar(world, thing):
    if not is_row(thing, 2) or not isinstance(thing[0], tuple):
        return False
    picks, node = thing
    nodes, _, net = web_of(world)
    if not all([is_row(pick, 2) and pick[0] in nodes and pick[1] in world[0] for pick in picks]) or node not in nodes:
        return False
    if not _are_led(world, nodes, net, picks):
        return False
    return not any([_are_led(world, nodes, net, (*picks, (node, tile))) for tile in world[0]])


def _are_led(world, nodes, net, picks):
    """Tell whether web_led raises nothing for these WEB PICKS."""
    try:
        led_masks(world, nodes, net, picks)
    except NoPick:
        return False
    return True


def laying_by(world, land, ahead):
    tiles = guide(world)
    lots = look(world, land, ahead)
    if lots is None:
        raise Refused()
    return {cell: tiles[(mark, lots[cell])] for cell, mark in land[0]}
