"""Smaller worlds: with fewer TILES, or with fewer COUPLES [30]."""

from itertools import combinations

from laidanyhow.errors import NoWorld, TooMany
from laidanyhow.free import is_free
from laidanyhow.guides import is_sure
from laidanyhow.worlds import checked_world

MOST_LACKS = 200


def kept(world, lot):
    tables = []
    for kind, couples in world[1]:
        tables.append((kind, tuple([row for row in couples if row[0] in lot and row[1] in lot])))
    told = [one for one in world[4] if all([tile in lot for tile in one])]
    return checked_world((lot, tuple(tables), world[2], world[3], tuple(told)))


def greatest_sure(world):
    return _greatest(world, is_sure)


def greatest_free(world):
    return _greatest(world, is_free)


def _greatest(world, is_right):
    """Return the greatest LOTS, ascending, for which what is kept of the WORLD is right."""
    tiles = list(world[0])
    found = []
    # Those with more TILES first: so what lies within a LOT that was found need not be looked at.
    for size in range(len(tiles), 0, -1):
        for lot in combinations(tiles, size):
            is_within = any([all([tile in one for tile in lot]) for one in found])
            if not is_within and _is_kept_right(world, lot, is_right):
                found.append(lot)
    return tuple(sorted(found))


def _is_kept_right(world, lot, is_right):
    try:
        part = kept(world, lot)
    except NoWorld:
        return False
    return is_right(part)


def without(world, lack):
    tables = []
    for kind, couples in world[1]:
        tables.append((kind, tuple([row for row in couples if (kind, *row) not in lack])))
    return checked_world((world[0], tuple(tables), *world[2:]))


def fewest_sure(world):
    return _fewest(world, is_sure)


def fewest_free(world):
    return _fewest(world, is_free)


def _fewest(world, is_right):
    """Return the first LACK without which the WORLD is right, shorter ones first, None if there is none."""
    couples = [(kind, *row) for kind, rows in world[1] for row in rows]
    used = [tie[0] for tie in world[3]]
    many = 0
    for size in range(len(couples) + 1):
        for lack in combinations(couples, size):
            if many == MOST_LACKS:
                raise TooMany(MOST_LACKS)
            many += 1
            # A COUPLE of no PATTERN TIE makes no difference, and without it the LACK came before.
            if all([row[0] in used for row in lack]) and _is_right_without(world, lack, is_right):
                return lack
    return None


def _is_right_without(world, lack, is_right):
    try:
        part = without(world, lack)
    except NoWorld:
        return False
    return is_right(part)
