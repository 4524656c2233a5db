"""Copies of NODES, LANDS on which the LOOK is wrong, and LANDS on which one is STUCK [26]."""

from laidanyhow.arising import MOST_CELLS, forest_of, growths, planted
from laidanyhow.errors import Nothing, TooMany
from laidanyhow.free import bound_picks
from laidanyhow.guides import is_sure
from laidanyhow.lands import cells_of, part_of
from laidanyhow.layings import no_laying
from laidanyhow.looks import look, look_on, picked
from laidanyhow.nets import any_laying, land_masks, land_net, mask_of, net_of
from laidanyhow.strikes import short_refusal
from laidanyhow.webs import web_ties


def copies(world, many):
    found = growths(world)
    _check_size(found, many, 0)
    keys = [(node, number) for node in sorted(found) for number in range(many)]
    land, ahead, roots = _tied_copies(world, found, [node for node, number in keys])
    return (land, ahead, dict(zip(keys, roots)))


def _check_size(found, many, more):
    """Raise TooMany if so many copies of all NODES, and so many CELLS more, are too many CELLS."""
    if many * sum([cells for cells, how in found.values()]) + more > MOST_CELLS:
        raise TooMany(MOST_CELLS)


def _tied_copies(world, found, row):
    """Return the LAND of copies of the NODES in a row, what is told there, and the list of the CELLS of the copies."""
    land, ahead, roots = forest_of([planted(world, [found], 0, node) for node in row])
    ties = [(kind, roots[one], roots[other]) for kind, one, other in _copy_ties(world, row)]
    return (land[0], tuple(sorted([*land[1], *ties]))), ahead, roots


def _copy_ties(world, row):
    """Return the list of the TIES (kind, one, other) between copies of the NODES in a row, told by their indexes."""
    places = {}
    for place, node in enumerate(row):
        places.setdefault(node, []).append(place)
    ties = []
    for tie, one, other in web_ties(world):
        for begin in places.get(one, []):
            ties.extend([(tie[0], begin, end) for end in places.get(other, []) if begin != end])
    return ties


def wrong_land(world):
    if is_sure(world):
        raise Nothing()
    found = growths(world)
    land, ahead, _ = _tied_copies(world, found, _wrong_row(world, found))
    cells = cells_of(land)
    # Those CELLS of the trees go that have no part in it.
    needed = _needed(land_net(world, land), land_masks(world, land, ahead), [[place] for place in range(len(cells))])
    land, ahead = _part(land, ahead, [cells[place] for place in needed])
    return (land, ahead, no_laying(world, land, ahead))


def _wrong_row(world, found):
    """Return a list of NODES such that copies of them have no LAYING, but do if any one is left out."""
    many = 1
    while True:
        _check_size(found, many, 0)
        row = [node for node in sorted(found) for _ in range(many)]
        net = net_of(world, len(row), _copy_ties(world, row))
        masks = [mask_of(world, lot) for mark, lot in row]
        if any_laying(net, masks) is None:
            groups = [list(range(place, place + many)) for place in range(0, len(row), many)]
            return [row[place] for place in _needed(net, masks, groups + [[place] for place in range(len(row))])]
        many += 1


def _needed(net, masks, groups):
    """Return the PLACES that are left if each group of PLACES is left out without which there is still no LAYING."""
    left = net, masks
    gone = {}
    for group in groups:
        if group[0] not in gone:
            part = _without(*left, group)
            if any_laying(*part) is None:
                left = part
                for place in group:
                    gone[place] = True
    return [place for place in range(len(masks)) if place not in gone]


def _without(net, masks, group):
    """Return the NET and the MASKS in which the PLACES of the group are tied to nothing and have one TILE."""
    part = [[link for link in links if link[0] not in group] for links in net]
    left = list(masks)
    for place in group:
        part[place] = []
        left[place] = 1
    return part, left


def stuck_land(world):
    bound = bound_picks(world)
    if bound == []:
        raise Nothing()
    if is_sure(world):
        return _stuck_at_once(world, bound)
    land, ahead, _ = wrong_land(world)
    return (land, ahead, _picks_to_the_end(world, land, ahead))


def _picks_to_the_end(world, land, ahead):
    """Return a row of PICKS on a LAND without a LAYING: the first TILES that are LET, until one is STUCK."""
    picks = []
    lots = look(world, land, ahead)
    for cell in cells_of(land):
        # To pick the only TILE of a LOT is of no use.
        if lots is not None and len(lots[cell]) > 1:
            tile = lots[cell][0]
            picks.append((cell, tile))
            lots = look_on(world, land, {**lots, cell: (tile,)})
    return tuple(picks)


def _stuck_at_once(world, bound):
    """Return what stuck_land returns of a SURE WORLD in which there is no GUIDE BESIDE these."""
    found = growths(world)
    # One of the least size, so that it is not too large where another one would not be.
    more, node, tile = min([(found[beside][0], beside, one) for beside, one in bound])
    _check_size(found, 2, more)
    land, ahead, roots = _tied_copies(world, found, [*sorted(found), *sorted(found), node])
    pick = (roots[-1], tile)
    # What has no part in the refusal is left out.
    row = short_refusal(world, land, picked(ahead, pick))
    cells = sorted({cell for strike in row for cell in strike[2][1:]})
    land, ahead = _part(land, ahead, cells)
    return (land, ahead, (pick,))


def _part(land, ahead, cells):
    """Return the part of a LAND with these ascending CELLS, and what is told there."""
    return part_of(land, cells), {cell: ahead[cell] for cell in cells if cell in ahead}
