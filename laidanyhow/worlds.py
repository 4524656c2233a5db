"""Worlds: their faults, their KINDS and COUPLES, what is told and handed, worlds made of others [13]."""

from laidanyhow.errors import NoWorld, Nothing
from laidanyhow.forms import fault_of_world, lonely_tiles


def world_fault(thing):
    return fault_of_world(thing)


def checked_world(thing):
    fault = world_fault(thing)
    if fault is not None:
        raise NoWorld(fault)
    return thing


def kinds_of(world):
    return tuple([kind for kind, couples in world[1]])


def couples_of(world, kind):
    return dict(world[1])[kind]


def fits(world, kind, one, other):
    return (one, other) in couples_of(world, kind)


def partners(world, kind, tile):
    return tuple([other for one, other in couples_of(world, kind) if one == tile])


def partners_ahead(world, kind, tile):
    return tuple([one for one, other in couples_of(world, kind) if other == tile])


def told_lots(world):
    found = [world[0]] + [(tile,) for tile in world[0]]
    for lot in world[4]:
        # What is found already has the common TILES of any number of its LOTS among it.
        met = [common_tiles(lot, one) for one in found]
        found = sorted({one for one in found + met if one != ()})
    # In a WORLD of one TILE the WHOLE LOT is that of this TILE.
    return tuple(sorted(set(found)))


def common_tiles(one, other):
    return tuple([tile for tile in one if tile in other])


def handed(world, tie, lot):
    return tuple(sorted({other for one, other in couples_of(world, tie[0]) if one in lot}))


def handed_back(world, tie, lot):
    return tuple(sorted({one for one, other in couples_of(world, tie[0]) if other in lot}))


def holds(world, kind, one, other):
    within = [row for row in couples_of(world, kind) if row[0] in one and row[1] in other]
    firsts = [row[0] for row in within]
    seconds = [row[1] for row in within]
    return all([tile in firsts for tile in one]) and all([tile in seconds for tile in other])


def turned_world(world):
    tiles, tables, marks, ties, told = world
    turned = [(kind, _ascending([(other, one) for one, other in couples])) for kind, couples in tables]
    return (tiles, tuple(turned), marks, _ascending([(kind, other, one) for kind, one, other in ties]), told)


def renamed_world(world, names):
    tiles, tables, marks, ties, told = world
    renamed = []
    for kind, couples in tables:
        renamed.append((kind, _ascending([(names[one], names[other]) for one, other in couples])))
    lots = [_ascending([names[tile] for tile in lot]) for lot in told]
    return (_ascending([names[tile] for tile in tiles]), tuple(renamed), marks, ties, _ascending(lots))


def trimmed_world(thing):
    tables = dict(thing[1])
    kinds = sorted({tie[0] for tie in thing[3]})
    tiles = ()
    left = thing[0]
    # A TILE that is left out may have been the last partner of another one.
    while left != tiles:
        tiles = left
        for kind in kinds:
            lonely = lonely_tiles(left, tables[kind])
            left = tuple([tile for tile in left if tile not in lonely])
    if tiles == ():
        raise Nothing()
    return only_tiles(thing, tiles)


def only_tiles(world, tiles):
    """Return the WORLD with these TILES alone; LOTS of told lose the others, and go if they become empty."""
    tables = []
    for kind, couples in world[1]:
        tables.append((kind, tuple([row for row in couples if row[0] in tiles and row[1] in tiles])))
    lots = [common_tiles(lot, tiles) for lot in world[4]]
    return (tiles, tuple(tables), world[2], world[3], tuple(sorted({lot for lot in lots if lot != ()})))


def _ascending(rows):
    return tuple(sorted(rows))
