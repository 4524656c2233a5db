"""The look: what is left of the LOTS when all TILES that lack a partner are struck, and PICKS [17]."""

from laidanyhow.lands import cells_of
from laidanyhow.worlds import holds, kinds_of, partners, partners_ahead


def first_lots(world, land, ahead):
    return {cell: ahead.get(cell, world[0]) for cell in cells_of(land)}


def look(world, land, ahead):
    return look_on(world, land, first_lots(world, land, ahead))


def look_on(world, land, lots):
    left, _ = strike_out(links_of(world, land), {cell: lots[cell] for cell in cells_of(land)})
    return None if has_empty(left) else left


def picked(ahead, pick):
    cell, tile = pick
    behind = {**ahead, cell: (tile,)}
    return {one: behind[one] for one in sorted(behind)}


def are_let(world, land, ahead, picks):
    lots = look(world, land, ahead)
    for cell, tile in picks:
        if lots is None or tile not in lots[cell]:
            return False
        # As the TILE is in the LOOKED LOT, the LOOK may go on from there instead of beginning anew.
        lots = look_on(world, land, {**lots, cell: (tile,)})
    return True


def open_cells(lots):
    return tuple([cell for cell in sorted(lots) if len(lots[cell]) > 1])


def are_held(world, land, lots):
    return all([holds(world, kind, lots[one], lots[other]) for kind, one, other in land[1]])


def has_empty(lots):
    return () in list(lots.values())


def links_of(world, land):
    """Return a dict from all CELLS to lists of their LINKS, one for each TIE at the CELL.

    A LINK is a tuple (tie, other, mates): the CELL at the other end, and a dict from all TILES, being there, to the
    TILES that fit them from this CELL.
    """
    begins = {}
    ends = {}
    for kind in kinds_of(world):
        begins[kind] = {tile: partners_ahead(world, kind, tile) for tile in world[0]}
        ends[kind] = {tile: partners(world, kind, tile) for tile in world[0]}
    links = {cell: [] for cell in cells_of(land)}
    for tie in land[1]:
        kind, one, other = tie
        links[one].append((tie, other, begins[kind]))
        links[other].append((tie, one, ends[kind]))
    return links


def strike_out(links, lots):
    """Strike until nothing can be struck or a LOT is empty.

    Return the dict of what is left in the LOTS, in the order of lots, and the list of the STRIKES, in order.
    """
    left = dict(lots)
    row = []
    waiting = list(lots)
    while len(waiting) > 0:
        cell = waiting.pop()
        for tie, other, mates in links[cell]:
            gone = _without_mates(left[other], left[cell], mates)
            for tile in gone:
                row.append((other, tile, tie))
                left[other] = tuple([one for one in left[other] if one != tile])
                if left[other] == ():
                    return left, row
            if len(gone) > 0 and other not in waiting:
                waiting.append(other)
    return left, row


def _without_mates(lot, beside, mates):
    """Return the TILES of the LOT that no TILE of the LOT beside it fits."""
    return [tile for tile in lot if not any([mate in beside for mate in mates[tile]])]
