"""Endless boards, and what is built on them [31]."""

from laidanyhow.errors import NoForget, Refused, TooMany
from laidanyhow.forms import is_integer, is_row, is_world
from laidanyhow.guides import guide
from laidanyhow.nets import land_masks, land_net, lot_of, settled
from laidanyhow.rounds import forgets
from laidanyhow.worlds import kinds_of

MOST_NEAR = 400


def is_board(thing):
    if not is_row(thing, 4) or not is_world(thing[0]):
        return False
    world, rows, right, down = thing
    if right not in kinds_of(world) or down not in kinds_of(world) or not _are_rows(world, rows):
        return False
    return all([_is_tied(thing, (x, y)) for y, row in enumerate(rows) for x in range(len(row))])


def _are_rows(world, thing):
    """Tell whether any value is a tuple of at least one ROW."""
    if not isinstance(thing, tuple) or len(thing) == 0:
        return False
    if not all([isinstance(row, tuple) and len(row) > 0 for row in thing]):
        return False
    if not all([len(row) == len(thing[0]) for row in thing]):
        return False
    return all([mark in world[2] for row in thing for mark in row])


def _is_tied(board, place):
    """Tell whether the PLACE is tied to the one on its right and to that below it by PATTERN TIES."""
    ties = board[0][3]
    mark = mark_at(board, place)
    return all([(kind, mark, mark_at(board, other)) in ties for kind, other in _places_behind(board, place)])


def _places_behind(board, place):
    """Return the tuples (kind, other) of the PLACES to the right of this one and below it."""
    x, y = place
    return ((board[2], (x + 1, y)), (board[3], (x, y + 1)))


def is_place(thing):
    return is_row(thing, 2) and is_integer(thing[0]) and is_integer(thing[1])


def are_builds(board, thing):
    if not isinstance(thing, dict):
        return False
    return all([is_place(place) and tile in board[0][0] for place, tile in thing.items()])


def mark_at(board, place):
    rows = board[1]
    x, y = place
    row = rows[y % len(rows)]
    return row[x % len(row)]


def part_land(board, builds, places):
    digits = len(str(len(places) - 1))
    names = {place: "p" + str(index).zfill(digits) for index, place in enumerate(places)}
    ties = []
    for place in places:
        for kind, other in _places_behind(board, place):
            if other in names:
                ties.append((kind, names[place], names[other]))
    cells = [(names[place], mark_at(board, place)) for place in places]
    ahead = {names[place]: (builds[place],) for place in places if place in builds}
    return ((tuple(cells), tuple(sorted(ties))), ahead)


def near(board, builds):
    number = forgets(board[0])
    if number is None:
        raise NoForget()
    found = {place: True for place in builds}
    edge = list(builds)
    for _ in range(number - 1):
        edge = _next_places(found, edge)
        for place in edge:
            found[place] = True
        if len(found) > MOST_NEAR:
            break
    if len(found) > MOST_NEAR:
        raise TooMany(MOST_NEAR)
    return tuple(sorted(found))


def _next_places(found, edge):
    """Return the ascending list of the PLACES that are one step away from these, and not found yet."""
    beside = [place for x, y in edge for place in ((x - 1, y), (x + 1, y), (x, y - 1), (x, y + 1))]
    return sorted({place for place in beside if place not in found})


def board_look(board, builds):
    world = board[0]
    places = near(board, builds)
    edge = _next_places({place: True for place in places}, places)
    part = tuple(sorted([*places, *edge]))
    land, ahead = part_land(board, builds, part)
    masks = settled(land_net(world, land), land_masks(world, land, ahead))
    if masks is None:
        return None
    looked = dict(zip(part, masks))
    return {place: lot_of(world, looked[place]) for place in places}


def tile_at(board, builds, place):
    tiles, lots = tiles_and_lots(board, builds)
    return laid_at(board, tiles, lots, place)


def tiles_and_lots(board, builds):
    """Return THE GUIDE and what board_look returns; raise what tile_at raises."""
    lots = board_look(board, builds)
    tiles = guide(board[0])
    if lots is None:
        raise Refused()
    return tiles, lots


def laid_at(board, tiles, lots, place):
    """Return the TILE that THE GUIDE has at a PLACE for what board_look returned."""
    return tiles[(mark_at(board, place), lots.get(place, board[0][0]))]


def can_build(board, builds, place, tile):
    return board_look(board, {**builds, place: tile}) is not None
