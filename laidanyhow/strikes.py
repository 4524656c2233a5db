"""Strikes: rows of them, and those that show that there is no LAYING [18]."""

from laidanyhow.errors import Nothing
from laidanyhow.forms import is_row
from laidanyhow.lands import other_end
from laidanyhow.looks import first_lots, has_empty, links_of, strike_out
from laidanyhow.worlds import common_tiles, partners, partners_ahead


def struck(world, land, ahead, row):
    left = first_lots(world, land, ahead)
    for strike in row:
        left = _behind(left, strike)
    return left


def can_be_struck(world, land, lots, thing):
    if not is_row(thing, 3):
        return False
    cell, tile, tie = thing
    if tie not in land[1] or cell not in tie[1:] or tile not in lots[cell]:
        return False
    return common_tiles(_mates(world, thing), lots[other_end(tie, cell)]) == ()


def _mates(world, strike):
    """Return the TILES that, standing at the other end of the TIE, fit the TILE that is struck."""
    cell, tile, tie = strike
    if tie[1] == cell:
        return partners(world, tie[0], tile)
    return partners_ahead(world, tie[0], tile)


def _behind(lots, strike):
    cell, tile, _ = strike
    return {**lots, cell: tuple([one for one in lots[cell] if one != tile])}


def is_strikes(world, land, ahead, thing):
    return _left_behind(world, land, ahead, thing) is not None


def _left_behind(world, land, ahead, thing):
    """Return what is left in the LOTS behind any value, None if it is no ROW OF STRIKES."""
    if not isinstance(thing, tuple):
        return None
    left = first_lots(world, land, ahead)
    over = False
    for strike in thing:
        if over or not can_be_struck(world, land, left, strike):
            return None
        left = _behind(left, strike)
        over = left[strike[0]] == ()
    return left


def strikes_of(world, land, ahead):
    _, row = _struck_to_the_end(world, land, ahead)
    return tuple(row)


def _struck_to_the_end(world, land, ahead):
    return strike_out(links_of(world, land), first_lots(world, land, ahead))


def is_refusal(world, land, ahead, thing):
    left = _left_behind(world, land, ahead, thing)
    return left is not None and has_empty(left)


def refusal(world, land, ahead):
    left, row = _struck_to_the_end(world, land, ahead)
    return tuple(row) if has_empty(left) else None


def short_refusal(world, land, ahead):
    row = refusal(world, land, ahead)
    if row is None:
        raise Nothing()
    # Each TILE is struck once only, so which other STRIKES a STRIKE needs is not a matter of choice.
    first = first_lots(world, land, ahead)
    empty = row[-1][0]
    needed = {(empty, tile): True for tile in first[empty]}
    short = []
    for strike in reversed(row):
        cell, tile, tie = strike
        if (cell, tile) in needed:
            short.append(strike)
            far = other_end(tie, cell)
            for mate in common_tiles(_mates(world, strike), first[far]):
                needed[(far, mate)] = True
    return tuple(reversed(short))
