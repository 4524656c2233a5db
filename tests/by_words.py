"""What the document says of LAYINGS, LOTS that ARISE, ROUNDS, the WEB and GUIDES, word by word, for the tests.

Nothing in here uses the package; it goes through all that there is, so it is for small worlds and lands.
"""

import itertools

from tests.samples import first_by_words, fits_by_words, strikes_by_words


def layings_by_words(world, land, ahead):
    """All LAYINGS, ascending, by going through all dicts of TILES."""
    cells = [cell for cell, mark in land[0]]
    lots = first_by_words(world, land, ahead)
    found = []
    for tiles in itertools.product(*(lots[cell] for cell in cells)):
        laid = dict(zip(cells, tiles))
        if all(fits_by_words(world, kind, laid[one], laid[other]) for kind, one, other in land[1]):
            found.append(laid)
    return found


def some_laying(world, land, ahead):
    """One LAYING, None if there is none: cell after cell, each one behind those to which it is tied, where it can."""
    row = []
    while len(row) < len(land[0]):
        inner = [set(tie[1:]) - set(row) for tie in land[1] if set(tie[1:]) & set(row)]
        rest = [cell for cell, mark in land[0] if cell not in row]
        row.append(max(rest, key=lambda cell: inner.count({cell})))
    lots = first_by_words(world, land, ahead)
    at = {cell: [tie for tie in land[1] if cell in tie[1:]] for cell in row}
    laid = {}

    def lay(place):
        if place == len(row):
            return True
        cell = row[place]
        for tile in lots[cell]:
            laid[cell] = tile
            ties = [tie for tie in at[cell] if tie[1] in laid and tie[2] in laid]
            if all(fits_by_words(world, kind, laid[one], laid[other]) for kind, one, other in ties) and lay(place + 1):
                return True
            del laid[cell]
        return False

    return laid if lay(0) else None


def left_by_words(world, land, ahead):
    """The LOOKED LOTS, None if the LOOK refuses."""
    left = first_by_words(world, land, ahead)
    while () not in left.values():
        able = strikes_by_words(world, land, left)
        if not able:
            return left
        cell, tile, tie = able[0]
        left[cell] = tuple(one for one in left[cell] if one != tile)
    return None


def handed_by_words(world, kind, lot):
    return tuple(sorted({other for one, other in dict(world[1])[kind] if one in lot}))


def back_by_words(world, kind, lot):
    return tuple(sorted({one for one, other in dict(world[1])[kind] if other in lot}))


def common_by_words(one, other):
    return tuple(tile for tile in one if tile in other)


def holds_by_words(world, kind, one, other):
    couples = dict(world[1])[kind]
    return (
        all(any((tile, mate) in couples for mate in other) for tile in one)
        and all(any((mate, tile) in couples for mate in one) for tile in other)
    )


def met(lots):
    """All common TILES of any number of the LOTS, if there are any."""
    lots = set(lots)
    while True:
        more = {common_by_words(one, other) for one in lots for other in lots} - {()}
        if more <= lots:
            return lots
        lots |= more


def passed_by_words(world, lots):
    """The dict from all MARKS to the sets of what is handed on and back of these LOTS."""
    found = {mark: set() for mark in world[2]}
    for kind, begin, end in world[3]:
        found[end] |= {handed_by_words(world, kind, lot) for lot in lots[begin]}
        found[begin] |= {back_by_words(world, kind, lot) for lot in lots[end]}
    return found


def arising_by_words(world, told):
    lots = {mark: set(told) for mark in world[2]}
    while True:
        more = passed_by_words(world, lots)
        grown = {mark: met(lots[mark] | more[mark]) for mark in world[2]}
        if grown == lots:
            return {mark: tuple(sorted(lots[mark])) for mark in world[2]}
        lots = grown


def round_by_words(world, told, number):
    lots = arising_by_words(world, told)
    for _ in range(number):
        more = passed_by_words(world, lots)
        lots = {mark: tuple(sorted(met(more[mark]))) for mark in world[2]}
    return lots


def trees_by_words(world, told, most, far=0):
    """The dict from (distance, mark, many) to the sets of LOTS that the CELL of a tree of so many CELLS can have.

    What is told is at least that distance away from the CELL.
    """
    found = {}
    for many in range(1, most + 1):
        for away in range(far + 1):
            for mark in world[2]:
                lots = set() if many > 1 else {world[0]} if away else set(told)
                for branch in range(1, many):
                    more = {one: set() for one in world[2]}
                    for kind, begin, end in world[3]:
                        near = max(away - 1, 0)
                        if end == mark:
                            more[begin] |= {handed_by_words(world, kind, lot) for lot in found[near, begin, branch]}
                        if begin == mark:
                            more[end] |= {back_by_words(world, kind, lot) for lot in found[near, end, branch]}
                    for one in more.values():
                        lots |= {common_by_words(lot, root) for lot in one for root in found[away, mark, many - branch]}
                found[away, mark, many] = lots - {()}
    return found


def nodes_by_words(world, told):
    return [(mark, lot) for mark, lots in arising_by_words(world, told).items() for lot in lots]


def web_ties_by_words(world, told):
    nodes = nodes_by_words(world, told)
    return sorted(
        (tie, one, other)
        for tie in world[3] for one in nodes for other in nodes
        if one[0] == tie[1] and other[0] == tie[2] and holds_by_words(world, tie[0], one[1], other[1])
    )


def web_look_by_words(world, ties, lots):
    left = dict(lots)
    changed = True
    while changed:
        changed = False
        for (kind, _, _), one, other in ties:
            for node, far, couple in (
                (one, other, lambda tile, mate: fits_by_words(world, kind, tile, mate)),
                (other, one, lambda tile, mate: fits_by_words(world, kind, mate, tile)),
            ):
                kept = tuple(tile for tile in left[node] if any(couple(tile, mate) for mate in left[far]))
                if kept != left[node]:
                    left[node] = kept
                    changed = True
        if () in left.values():
            return None
    return left


def guides_by_words(world, told, first=None):
    """Yield all GUIDES, by trying each TILE at each NODE and going back; first is a dict of what some NODES have."""
    nodes = nodes_by_words(world, told)
    ties = web_ties_by_words(world, told)
    at = {node: [tie for tie in ties if node in tie[1:]] for node in nodes}
    laid = {}

    def lay(place):
        if place == len(nodes):
            yield dict(laid)
            return
        node = nodes[place]
        for tile in node[1]:
            if first and tile not in first.get(node, node[1]):
                continue
            laid[node] = tile
            inner = [tie for tie in at[node] if tie[1] in laid and tie[2] in laid]
            if all(fits_by_words(world, tie[0], laid[one], laid[other]) for tie, one, other in inner):
                yield from lay(place + 1)
            del laid[node]

    yield from lay(0)


def beside_by_words(world, told, node, tile):
    """What the TILE beside a NODE lets the NODES have: a dict to pass to guides_by_words."""
    able = {one: set(one[1]) for one in nodes_by_words(world, told)}
    for (kind, _, _), one, other in web_ties_by_words(world, told):
        if one == node:
            able[other] &= {mate for mate in world[0] if fits_by_words(world, kind, tile, mate)}
        if other == node:
            able[one] &= {mate for mate in world[0] if fits_by_words(world, kind, mate, tile)}
    return able
