"""Boards for the tests, and what the document says of them, word by word."""

from laidanyhow.rounds import forgets
from tests.by_words import left_by_words
from tests.samples import Dice, world_by_words

COUPLES = (("m", "m"), ("m", "s"), ("s", "m"), ("s", "s"), ("s", "w"), ("w", "s"), ("w", "w"))
SHORE = (("m", "s", "w"), (("by", COUPLES),), ("a",), (("by", "a", "a"),), ())
SHORES = (SHORE, (("a",),), "by", "by")
# Slopes go up or down by one at most: so three steps away from what is built anything can stand.
SLOPES = (
    (
        ("a", "b", "c", "d"),
        (("up", tuple((one, other) for one in "abcd" for other in "abcd" if abs(ord(one) - ord(other)) < 2)),),
        ("m",), (("up", "m", "m"),), (),
    ),
    (("m",),), "up", "up",
)
TURNS = (("p", "q"), (("by", (("p", "q"), ("q", "p"))),), ("a", "b"), (("by", "a", "b"), ("by", "b", "a")), ())
CHESS = (TURNS, (("a", "b"), ("b", "a")), "by", "by")


def random_board(dice):
    """A board of a world that has just the pattern ties that it needs."""
    marks = ("m", "o", "p", "q")[:dice.one([1, 1, 2, 3])]
    high, wide = dice.one([(1, 1), (1, 2), (2, 1), (2, 2), (3, 1), (3, 2), (1, 3)])
    rows = tuple(tuple(dice.one(marks) for _ in range(wide)) for _ in range(high))
    right, down = dice.one([("k", "k"), ("k", "l"), ("l", "k")])
    ties = {(right, rows[y][x], rows[y][(x + 1) % wide]) for y in range(high) for x in range(wide)}
    ties |= {(down, rows[y][x], rows[(y + 1) % high][x]) for y in range(high) for x in range(wide)}
    tiles = tuple("abcd"[:dice.one([1, 2, 3, 3, 4])])
    pairs = [(one, other) for one in tiles for other in tiles]
    tables = []
    for kind in ("k", "l"):
        couples = {*dice.some(pairs, dice.one([1, 1, 2, 2, 4])), *zip(tiles, dice.mixed(tiles))}
        tables.append((kind, tuple(sorted(couples))))
    told = {tuple(sorted(dice.some(tiles) or tiles[:1])) for _ in range(dice.below(3))}
    return ((tiles, tuple(tables), marks, tuple(sorted(ties)), tuple(sorted(told))), rows, right, down)


def random_builds(board, dice, many=3, wide=5):
    tiles = board[0][0]
    places = [(dice.below(wide) - 2, dice.below(wide) - 2) for _ in range(dice.below(many + 1))]
    return {place: dice.one(tiles) for place in places}


def forgetting_boards(many):
    """So many random boards whose worlds forget, in few steps or in more, and dice for each one."""
    found = []
    seed = 0
    counts = {}
    while len(found) < many:
        seed += 1
        dice = Dice(seed)
        board = dice.one([SHORES, SLOPES]) if seed % 9 == 0 else random_board(dice)
        number = forgets(board[0])
        if number is not None and counts.get(number, 0) < many // 3:
            counts[number] = counts.get(number, 0) + 1
            found.append((dice, board, number))
    return found


def is_board_by_words(thing):
    if type(thing) is not tuple or len(thing) != 4 or not world_by_words(thing[0]) or type(thing[1]) is not tuple:
        return False
    world, rows, right, down = thing
    kinds = [kind for kind, couples in world[1]]
    if len(rows) == 0 or not all(type(row) is tuple and len(row) > 0 for row in rows):
        return False
    if len({len(row) for row in rows}) != 1 or not all(mark in list(world[2]) for row in rows for mark in row):
        return False
    if not all(type(kind) is str and kind in kinds for kind in (right, down)):
        return False
    for x in range(-7, 7):
        for y in range(-7, 7):
            mark = mark_by_words(thing, (x, y))
            if (right, mark, mark_by_words(thing, (x + 1, y))) not in world[3]:
                return False
            if (down, mark, mark_by_words(thing, (x, y + 1))) not in world[3]:
                return False
    return True


def mark_by_words(board, place):
    rows = board[1]
    return rows[place[1] % len(rows)][place[0] % len(rows[0])]


def steps(one, other):
    return abs(one[0] - other[0]) + abs(one[1] - other[1])


def around(builds, most):
    """The ascending list of all PLACES at most so many steps away from some PLACE of BUILDS."""
    found = set()
    for x, y in builds:
        for i in range(-most, most + 1):
            for j in range(-most, most + 1):
                if steps((0, 0), (i, j)) <= most:
                    found.add((x + i, y + j))
    return sorted(found)


def part_by_words(board, builds, places):
    """What part_land returns."""
    wide = len(str(len(places) - 1))
    names = {place: "p" + "0" * (wide - len(str(index))) + str(index) for index, place in enumerate(places)}
    ties = []
    for one in places:
        for other in places:
            if (other[0] - one[0], other[1] - one[1]) == (1, 0):
                ties.append((board[2], names[one], names[other]))
            if (other[0] - one[0], other[1] - one[1]) == (0, 1):
                ties.append((board[3], names[one], names[other]))
    land = (tuple((names[place], mark_by_words(board, place)) for place in places), tuple(sorted(ties)))
    return land, {names[place]: (builds[place],) for place in places if place in builds}


def lots_by_words(board, builds, places):
    """The LOOKED LOTS of this part of the BOARD by its PLACES, None if the LOOK refuses."""
    land, ahead = part_by_words(board, builds, places)
    lots = left_by_words(board[0], land, ahead)
    if lots is None:
        return None
    return {place: lots[cell] for place, (cell, mark) in zip(places, land[0])}
