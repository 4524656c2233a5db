"""The LOTS that ARISE, their STORIES, and the trees that bring them about [21]."""

from heapq import heappop, heappush

from laidanyhow.errors import TooMany
from laidanyhow.forms import is_lot, is_row, is_told
from laidanyhow.worlds import common_tiles, handed, handed_back, told_lots

MOST_CELLS = 300


def arising(world):
    return lots_by_mark(world, nodes(world))


def lots_by_mark(world, found):
    """Return the dict from all MARKS to the tuples of their LOTS in a row of NODES."""
    lots = {mark: [] for mark in world[2]}
    for mark, lot in found:
        lots[mark].append(lot)
    return {mark: tuple(lots[mark]) for mark in lots}


def nodes(world):
    return tuple(sorted(growths(world)))


def story(world):
    return tuple([(mark, lot, how) for (mark, lot), (many, how) in growths(world).items()])


def is_story(world, thing):
    if not isinstance(thing, tuple):
        return False
    found = []
    for item in thing:
        if not is_row(item, 3) or item[0] not in world[2] or not is_lot(world, item[1]):
            return False
        if not _comes_about(world, found, item):
            return False
        found.append(item[:2])
    return True


def _comes_about(world, found, item):
    """Tell whether the how of an ITEM, being any value, tells how its LOT comes about behind these NODES."""
    mark, lot, how = item
    if how == ("told",):
        return is_told(world, lot)
    if not is_row(how, 3):
        return False
    word, one, other = how
    if word == "meet":
        return (mark, one) in found and (mark, other) in found and common_tiles(one, other) == lot
    if word not in ("on", "back") or one not in world[3]:
        return False
    source, end = (one[1], one[2]) if word == "on" else (one[2], one[1])
    if end != mark or (source, other) not in found:
        return False
    return _passed(world, word, one, other) == lot


def _passed(world, word, tie, lot):
    """Return what a PATTERN TIE hands on or back of a LOT, as the word says."""
    return handed(world, tie, lot) if word == "on" else handed_back(world, tie, lot)


def ends_of(world):
    """Return the dict from all MARKS to lists of tuples (word, tie, far): where PATTERN TIES lead from them."""
    ends = {mark: [] for mark in world[2]}
    for tie in world[3]:
        _, one, other = tie
        ends[one].append(("on", tie, other))
        ends[other].append(("back", tie, one))
    return ends


def hands_of(world, ends, node):
    """Return the list of tuples (mark, lot, how), one for each LOT that PATTERN TIES hand on or back of a NODE."""
    mark, lot = node
    return [(far, _passed(world, word, tie, lot), (word, tie, lot)) for word, tie, far in ends[mark]]


def growths(world):
    """Return the dict from all NODES to their GROWTHS, each one behind those of which it comes about.

    A GROWTH is a tuple (many, how): the fewest CELLS that a tree can have that brings the LOT about, and how it comes
    about there, as in an ITEM.
    """
    told = told_lots(world)
    ends = ends_of(world)
    offers = [(1, mark, lot, ("told",)) for mark in world[2] for lot in told]
    return least_growths(offers, lambda node: hands_of(world, ends, node))


def least_growths(offers, hands_at):
    """Return the dict from NODES to their least GROWTHS, those with fewer CELLS first.

    An offer is a tuple (many, mark, lot, how). LOTS of one MARK meet. hands_at is a function that returns, of a NODE,
    the list of tuples (mark, lot, how) of what is handed on of it with one CELL more.
    """
    queue = []
    least = {}
    _offer(queue, least, offers)
    found = {}
    lots = {}
    while len(queue) > 0:
        many, mark, lot, how = heappop(queue)
        if (mark, lot) not in found:
            found[(mark, lot)] = (many, how)
            lots.setdefault(mark, []).append(lot)
            _offer(queue, least, [(many + 1, *hand) for hand in hands_at((mark, lot))])
            _offer(queue, least, _meetings(found, lots[mark], mark, lot))
    return found


def _meetings(found, lots, mark, lot):
    """Return the offers of common TILES of a LOT and each of the LOTS found at its MARK."""
    offers = []
    for other in lots:
        common = common_tiles(lot, other)
        if common != ():
            many = found[(mark, lot)][0] + found[(mark, other)][0] - 1
            offers.append((many, mark, common, ("meet", lot, other)))
    return offers


def _offer(queue, least, offers):
    """Put those offers in the queue that have fewer CELLS than all offers of the same NODE before."""
    for offer in offers:
        many, mark, lot, _ = offer
        if (mark, lot) not in least or many < least[(mark, lot)]:
            least[(mark, lot)] = many
            heappush(queue, offer)


def grown(world, node):
    found = growths(world)
    if found[node][0] > MOST_CELLS:
        raise TooMany(MOST_CELLS)
    land, ahead, roots = forest_of([planted(world, [found], 0, node)])
    return (land, ahead, roots[0])


def planted(world, levels, top, node):
    """Return the tree (marks, ties, told) that brings a NODE about by its GROWTH in the level top.

    Its CELLS are numbers, 0 that of the NODE: marks is the list of their MARKS, told a dict from some of them to LOTS.
    levels is a list of dicts of GROWTHS. What is handed comes from the level below, or from level 0 in level 0.
    """
    marks = [node[0]]
    ties = []
    told = {}
    waiting = [(0, top, node[1])]
    while len(waiting) > 0:
        cell, level, lot = waiting.pop()
        _, how = levels[level][(marks[cell], lot)]
        if how[0] == "meet":
            waiting.extend([(cell, level, how[1]), (cell, level, how[2])])
        elif how[0] == "told":
            told[cell] = common_tiles(lot, told.get(cell, lot))
        else:
            branch = len(marks)
            kind, one, other = how[1]
            marks.append(one if how[0] == "on" else other)
            ties.append((kind, branch, cell) if how[0] == "on" else (kind, cell, branch))
            waiting.append((branch, max(level - 1, 0), how[2]))
    # A CELL that has the WHOLE LOT need not be told it.
    return marks, ties, {cell: told[cell] for cell in told if told[cell] != world[0]}


def forest_of(trees):
    """Return the LAND of these trees beside each other, what is told there, and the list of the CELLS numbered 0."""
    cells = []
    ties = []
    ahead = {}
    roots = []
    for marks, branches, told in trees:
        names = [f"c{len(cells) + number}" for number in range(len(marks))]
        roots.append(names[0])
        cells.extend(list(zip(names, marks)))
        ties.extend([(kind, names[one], names[other]) for kind, one, other in branches])
        for number in told:
            ahead[names[number]] = told[number]
    land = (tuple(sorted(cells)), tuple(sorted(ties)))
    return land, {cell: ahead[cell] for cell in sorted(ahead)}, roots
