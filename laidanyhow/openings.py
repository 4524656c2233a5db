"""Openings: what lies in WINDOWS of endless boards, and what building changes there [32]."""

from math import lcm

from laidanyhow.boards import laid_at, tiles_and_lots


def window(board, builds, one):
    tiles, lots = tiles_and_lots(board, builds)
    rows = [[laid_at(board, tiles, lots, place) for place in row] for row in _rows_of(one)]
    return tuple([tuple(row) for row in rows])


def _rows_of(one):
    """Return the list of the rows of PLACES of a WINDOW."""
    x, y, width, height = one
    return [[(x + i, y + j) for i in range(width)] for j in range(height)]


def picture(board, builds, one):
    return "\n".join([" ".join(row) for row in window(board, builds, one)])


def opened(board, builds, windows):
    tiles, lots = tiles_and_lots(board, builds)
    places = {place for one in windows for row in _rows_of(one) for place in row}
    return {place: laid_at(board, tiles, lots, place) for place in sorted(places)}


def changed(board, builds, place, tile):
    tiles, lots = tiles_and_lots(board, builds)
    _, later = tiles_and_lots(board, {**builds, place: tile})
    found = {}
    # Where nothing is near, neither before nor behind, THE GUIDE lays the same TILE for the same MARK.
    for one in sorted({**lots, **later}):
        before = laid_at(board, tiles, lots, one)
        behind = laid_at(board, tiles, later, one)
        if before != behind:
            found[one] = (before, behind)
    return found


def alike(board, builds, other, others):
    tiles, lots = tiles_and_lots(board, builds)
    far_tiles, far_lots = tiles_and_lots(other, others)
    high = lcm(len(board[1]), len(other[1]))
    wide = lcm(len(board[1][0]), len(other[1][0]))
    for y in range(high):
        for x in range(wide):
            # Each of these stands for endless many PLACES, and only some of all have anything near.
            if laid_at(board, tiles, {}, (x, y)) != laid_at(other, far_tiles, {}, (x, y)):
                return False
    places = sorted({**lots, **far_lots})
    return all([laid_at(board, tiles, lots, one) == laid_at(other, far_tiles, far_lots, one) for one in places])
