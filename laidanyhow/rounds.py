"""Rounds: how far what is told reaches [22]."""

from laidanyhow.arising import MOST_CELLS, arising, ends_of, forest_of, growths, hands_of, least_growths
from laidanyhow.arising import lots_by_mark, planted
from laidanyhow.errors import TooMany


def round_lots(world, number):
    lots = arising(world)
    hands = _hands_from(world, lots)
    for _ in range(number):
        behind = _lots_behind(world, lots, hands)
        # A ROUND with the LOTS of the one before it is followed by no other ones.
        if behind == lots:
            break
        lots = behind
    return lots


def _hands_from(world, lots):
    """Return the dict from all NODES to the lists of what is handed of them."""
    ends = ends_of(world)
    return {(mark, lot): hands_of(world, ends, (mark, lot)) for mark in lots for lot in lots[mark]}


def _lots_behind(world, lots, hands):
    """Return the LOTS of the ROUND behind that with these LOTS."""
    offers = [(1, *hand) for mark in lots for lot in lots[mark] for hand in hands[(mark, lot)]]
    return lots_by_mark(world, sorted(least_growths(offers, _nothing)))


def _nothing(node):
    """Return that nothing more is handed of a NODE."""
    return []


def forgets(world):
    lots = arising(world)
    hands = _hands_from(world, lots)
    number = 0
    while True:
        behind = _lots_behind(world, lots, hands)
        number += 1
        if all([lot == world[0] for mark in behind for lot in behind[mark]]):
            return number
        if behind == lots:
            return None
        lots = behind


def far_tree(world, number):
    least = forgets(world)
    if least is not None and number >= least:
        return None
    levels = [_small_growths(world, growths(world))]
    ends = ends_of(world)
    hands = {node: hands_of(world, ends, node) for node in levels[0]}
    # A tree has a CELL at each distance from its CELL to what is told, so the levels become empty at last.
    while len(levels) <= number and len(levels[-1]) > 0:
        below = levels[-1]
        offers = [(below[node][0] + 1, *hand) for node in below for hand in hands[node]]
        levels.append(_small_growths(world, least_growths(offers, _nothing)))
    if len(levels[-1]) == 0:
        raise TooMany(MOST_CELLS)
    _, node = min([(many, node) for node, (many, how) in levels[number].items()])
    land, ahead, roots = forest_of([planted(world, levels, number, node)])
    return (land, ahead, roots[0])


def _small_growths(world, found):
    """Return those of the GROWTHS that take not too many CELLS, but for those of the WHOLE LOT, which tell nothing."""
    whole = world[0]
    return {node: found[node] for node in found if found[node][0] <= MOST_CELLS and node[1] != whole}
