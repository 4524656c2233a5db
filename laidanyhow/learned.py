"""Worlds learned from pictures, and pictures woven of their WINDOWS [35]."""

from laidanyhow.errors import TooMany
from laidanyhow.forms import is_name
from laidanyhow.lands import grid, place_name
from laidanyhow.worlds import trimmed_world

DOWN = "down"
RIGHT = "right"
MARK = "any"
MOST_WINDOWS = 4


def is_picture(thing):
    if not isinstance(thing, tuple) or len(thing) == 0:
        return False
    if not all([isinstance(row, tuple) and len(row) > 0 for row in thing]):
        return False
    if not all([len(row) == len(thing[0]) for row in thing]):
        return False
    return all([is_name(name) for row in thing for name in row])


def learned(picture):
    tables = ((DOWN, _couples_of(picture, 1, 0)), (RIGHT, _couples_of(picture, 0, 1)))
    tiles = sorted({name for row in picture for name in row})
    return _trimmed(tiles, tables, [kind for kind, couples in tables if couples != ()])


def _couples_of(picture, down, right):
    """Return the COUPLES of what stands so far below and to the right of each other."""
    found = {}
    for i in range(len(picture) - down):
        for j in range(len(picture[0]) - right):
            found[(picture[i][j], picture[i + down][j + right])] = True
    return tuple(sorted(found))


def _trimmed(tiles, tables, kinds):
    """Return the trimmed WORLD of these TILES and tables, with a PATTERN TIE for each of these KINDS."""
    return trimmed_world((tuple(tiles), tables, (MARK,), tuple([(kind, MARK, MARK) for kind in kinds]), ()))


def as_laid(world, picture):
    tied = [kind for kind, one, other in world[3]]
    rows = [tuple([MARK for name in row]) for row in picture]
    land = grid(world, tuple(rows), RIGHT if RIGHT in tied else None, DOWN if DOWN in tied else None)
    tiles = {place_name(i, j): name for i, row in enumerate(picture) for j, name in enumerate(row)}
    return (land, {cell: tiles[cell] for cell in sorted(tiles)})


def learned_windows(picture, high, wide):
    found = sorted({_window(picture, i, j, high, wide) for i, j in _corners(picture, high, wide)})
    if len(found) > MOST_WINDOWS:
        raise TooMany(MOST_WINDOWS)
    shapes = {f"w{index}": shape for index, shape in enumerate(found)}
    pairs = [(one, other) for one in shapes for other in shapes]
    down = [(one, other) for one, other in pairs if shapes[one][1:] == shapes[other][:-1]]
    right = [(one, other) for one, other in pairs if _agree_beside(shapes[one], shapes[other])]
    world = _trimmed(list(shapes), ((DOWN, tuple(down)), (RIGHT, tuple(right))), [DOWN, RIGHT])
    return (world, {tile: shapes[tile] for tile in world[0]})


def _corners(picture, high, wide):
    """Return the list of the places (i, j) at which the first name of a WINDOW can stand."""
    return [(i, j) for i in range(len(picture) - high + 1) for j in range(len(picture[0]) - wide + 1)]


def _window(picture, i, j, high, wide):
    return tuple([row[j:j + wide] for row in picture[i:i + high]])


def _agree_beside(one, other):
    """Tell whether one WINDOW without its first column is the other one without its last column."""
    return [row[1:] for row in one] == [row[:-1] for row in other]


def woven(shapes, tiles):
    names = {}
    for cell in tiles:
        down, _, right = cell[1:].partition("c")
        for i, row in enumerate(shapes[tiles[cell]]):
            for j, name in enumerate(row):
                names[(int(down) + i, int(right) + j)] = name
    return _picture_of(names)


def _picture_of(names):
    """Return the PICTURE with these names at the places (i, j)."""
    high = max([i for i, j in names]) + 1
    wide = max([j for i, j in names]) + 1
    return tuple([tuple([names[(down, right)] for right in range(wide)]) for down in range(high)])
