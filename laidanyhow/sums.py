"""Sums over FORESTS: how many LAYINGS there are, and which one is where in their order [20]."""

from math import gcd

from laidanyhow.errors import NoLaying, NoNumber
from laidanyhow.lands import cells_of
from laidanyhow.looks import first_lots, links_of


def layings_many(world, land, ahead):
    return _many(links_of(world, land), first_lots(world, land, ahead), {})


def standing_many(world, land, ahead, cell):
    standing = _standing(links_of(world, land), first_lots(world, land, ahead), cell)
    return {tile: standing.get(tile, 0) for tile in world[0]}


def number_of(world, land, ahead, laying):
    links = links_of(world, land)
    lots = first_lots(world, land, ahead)
    number = 0
    for cell in cells_of(land):
        standing = _standing(links, lots, cell)
        number += sum([standing[tile] for tile in lots[cell] if tile < laying[cell]])
        lots[cell] = (laying[cell],)
    return number


def laying_at(world, land, ahead, number):
    links = links_of(world, land)
    lots = first_lots(world, land, ahead)
    many = _many(links, lots, {})
    if not 0 <= number < many:
        raise NoNumber(many)
    rest = number
    for cell in cells_of(land):
        tile, rest = _tile_with(_standing(links, lots, cell), rest)
        lots[cell] = (tile,)
    return {cell: lots[cell][0] for cell in lots}


def _tile_with(standing, number):
    """Return the TILE with which the LAYING of this number stands, and its number among those with this TILE."""
    less = 0
    for tile, many in standing.items():
        if number < less + many:
            return tile, number - less
        less += many
    return None, number


def share(world, land, ahead, cell, tile):
    standing = standing_many(world, land, ahead, cell)
    den = sum(standing.values())
    if den == 0:
        raise NoLaying()
    least = gcd(standing[tile], den)
    return (standing[tile] // least, den // least)


def _standing(links, lots, cell):
    """Return the dict from the TILES of the CELL's LOT to how many LAYINGS have them there."""
    ways, gone_through = _ways(links, lots, cell)
    elsewhere = _many(links, lots, gone_through)
    return {tile: ways[tile] * elsewhere for tile in ways}


def _many(links, lots, left_out):
    """Return how many LAYINGS those PIECES have that have no CELL among these keys."""
    seen = {cell: True for cell in left_out}
    many = 1
    for cell in lots:
        if cell not in seen:
            ways, gone_through = _ways(links, lots, cell)
            many *= sum(ways.values())
            for one in gone_through:
                seen[one] = True
    return many


def _ways(links, lots, root):
    """Return what of all LAYINGS of the root's PIECE has which TILE at the root, and the dict of the PIECE's CELLS.

    A dict from the TILES of its LOT to numbers is made for each CELL: how many ways there are to lay the CELL and what
    lies behind it, seen from the root. The second result has these dicts.
    """
    ways = {root: {tile: 1 for tile in lots[root]}}
    row = []
    waiting = [root]
    while len(waiting) > 0:
        cell = waiting.pop()
        for _, other, mates in links[cell]:
            if other not in ways:
                ways[other] = {tile: 1 for tile in lots[other]}
                row.append((cell, other, mates))
                waiting.append(other)
    # What lies farther behind is summed up first.
    for cell, other, mates in reversed(row):
        for tile in lots[cell]:
            ways[cell][tile] *= sum([ways[other][mate] for mate in ways[other] if tile in mates[mate]])
    return ways[root], ways
