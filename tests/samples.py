"""Worlds, lands and odd values for the tests, and what the document's definitions say of them, word by word.

Nothing in here uses the package but for its errors and objects, which stand among the odd values.
"""

from laidanyhow.desk import Desk
from laidanyhow.errors import Nothing, TileError, Wrong
from laidanyhow.house import House


class Dice:
    """Numbers that look like chance and are the same in each run."""

    def __init__(self, seed):
        self.state = seed * 7919 + 12345

    def below(self, many):
        self.state = (self.state * 6364136223846793005 + 1442695040888963407) % 2 ** 64
        return (self.state >> 33) % many

    def one(self, things):
        return things[self.below(len(things))]

    def some(self, things, part=2):
        return [thing for thing in things if self.below(part) == 0]

    def mixed(self, things):
        rest = list(things)
        out = []
        while rest:
            out.append(rest.pop(self.below(len(rest))))
        return out


STONES = (
    ("a", "b", "s"), (("r", (("a", "b"), ("b", "a"), ("s", "s"))),), ("m",), (("r", "m", "m"),), (("a", "b"),),
)
WHEEL = (
    ("a", "b", "c"), (("r", (("a", "b"), ("b", "c"), ("c", "a"))),), ("m", "n"), (("r", "m", "n"),),
    (("a", "b"), ("b", "c")),
)
TURNS = (("a", "b"), (("r", (("a", "b"), ("b", "a"))),), ("m", "n"), (("r", "m", "n"), ("r", "n", "m")), ())
COAST = (
    ("meadow", "sand", "water"),
    (
        ("by", (
            ("meadow", "meadow"), ("meadow", "sand"), ("sand", "meadow"), ("sand", "sand"), ("sand", "water"),
            ("water", "sand"), ("water", "water"),
        )),
        ("near", (("meadow", "sand"), ("sand", "water"), ("water", "meadow"), ("water", "sand"))),
        ("seldom", (("sand", "sand"),)),
    ),
    ("any", "shore"),
    (("by", "any", "any"), ("by", "any", "shore"), ("by", "shore", "any"), ("near", "any", "any"),
     ("near", "shore", "shore")),
    (("meadow", "sand"), ("sand", "water")),
)
LONE = (("a",), (), ("m",), (), ())
WORLDS = (STONES, WHEEL, TURNS, COAST, LONE)

TRIANGLE = ((("x", "m"), ("y", "m"), ("z", "m")), (("r", "x", "y"), ("r", "y", "z"), ("r", "z", "x")))


def nested(depth):
    thing = ()
    for _ in range(depth):
        thing = (thing,)
    return thing


def odd_values():
    """Values of all kinds that calls for any value must take, new ones each time."""
    return [
        None, True, False, 0, 1, -1, 10 ** 39, "", "a", "m", "r", "x", " ", "#", "\n", "A", "a b", "~" * 3000,
        [], (), {}, [[]], ((),), {"a": 1}, {(): []}, {1: 2, None: True}, ("a",), ["a"], (1, 2, 3), (None,) * 3000,
        ("a", "b"), ("r", "x", "y"), ((), (), (), (), ()), ([], [], [], [], []), ((), ()), nested(20),
        Wrong(0), TileError(), Nothing(), (Wrong([]),), [True, (False, {"x": ("a",)})],
        House(LONE, ((), ())), Desk("tile a\nmark m", ""), (House(LONE, ((), ())), "a"),
    ]


def nearly(thing):
    """Yield values that are this tuple or dict but for one place, at each depth."""
    if isinstance(thing, dict):
        yield list(thing.items())
        for key in thing:
            yield {one: thing[one] for one in thing if one != key}
            for part in nearly_part(thing[key]):
                yield {**thing, key: part}
        for key in (None, 1, True, "other", ("x",), Wrong(0)):
            yield {**thing, key: next(iter(thing.values()), ())}
    elif isinstance(thing, tuple):
        yield list(thing)
        yield thing + ((),)
        yield thing + (None,)
        yield thing[::-1]
        for place, item in enumerate(thing):
            yield thing[:place] + thing[place + 1:]
            yield thing[:place] + (item, item) + thing[place + 1:]
            yield thing[:place] + thing[place + 1:] + (item,)
            for part in nearly_part(item):
                yield thing[:place] + (part,) + thing[place + 1:]


def nearly_part(item):
    yield from (None, True, False, 0, 1, "", "other", "A", "a b", [], (), {}, ("a",), [item], (item,), Wrong(0))
    if isinstance(item, str):
        yield item + item
        yield item.upper()
        yield list(item)
    else:
        yield from nearly(item)


def random_world(dice):
    tiles = tuple("abcd"[:dice.one([1, 2, 3, 3, 4, 4])])
    pairs = [(one, other) for one in tiles for other in tiles]
    kinds = ("k", "l", "n")[:dice.one([0, 1, 1, 2, 2, 3, 3])]
    marks = ("m", "o", "p", "q")[:dice.one([1, 1, 2, 3, 4])]
    pattern = [(kind, one, other) for kind in kinds for one in marks for other in marks]
    ties = tuple(sorted(dice.mixed(pattern)[:dice.one([1, 3, 6, 6])]))
    used = [kind for kind, one, other in ties]
    tables = []
    for kind in kinds:
        couples = dice.some(pairs, 2 + dice.below(9))
        if kind in used:
            couples += zip(tiles, dice.mixed(tiles))
        tables.append((kind, tuple(sorted(set(couples)))))
    told = {tuple(sorted(dice.some(tiles) or tiles[:1])) for _ in range(dice.below(4))}
    return (tiles, tuple(tables), marks, ties, tuple(sorted(told)))


def great_world(dice, each_told=False):
    """A world of the greatest size: 4 tiles, 3 kinds, 4 marks, 6 pattern ties."""
    tiles = ("a", "b", "c", "d")
    pairs = [(one, other) for one in tiles for other in tiles]
    pattern = [(kind, one, other) for kind in "kln" for one in "mopq" for other in "mopq"]
    tables = []
    for kind in "kln":
        couples = dice.some(pairs, 2 + dice.below(6)) + list(zip(tiles, dice.mixed(tiles)))
        tables.append((kind, tuple(sorted(set(couples)))))
    told = {tuple(sorted(dice.some(tiles) or tiles[:1])) for _ in range(dice.below(4))}
    if each_told:
        told = {tuple(tile for tile in tiles if number >> "abcd".index(tile) & 1) for number in range(1, 16)}
    return (tiles, tuple(tables), ("m", "o", "p", "q"), tuple(sorted(dice.mixed(pattern)[:6])), tuple(sorted(told)))


def chain_world(many):
    """A world with so many marks in a row; the lot of a and b comes about at the first one, and is handed on."""
    marks = tuple("m%03d" % number for number in range(many))
    tables = (
        ("be", (("a", "a"), ("a", "b"), ("b", "c"), ("c", "a"), ("c", "c"))),
        ("on", (("a", "a"), ("b", "b"), ("c", "c"))),
    )
    ties = (("be", "m000", "m000"), *(("on", one, other) for one, other in zip(marks, marks[1:])))
    return (("a", "b", "c"), tables, marks, ties, ())


def land_of(world, dice, names, many_ties):
    """A land of cells with these names, and of so many ties if the pattern ties allow so many."""
    cells = tuple((name, dice.one(world[2])) for name in sorted(names))
    marks = dict(cells)
    able = [
        (kind, one, other)
        for kind, begin, end in world[3] for one in names for other in names
        if one != other and marks[one] == begin and marks[other] == end
    ]
    return (cells, tuple(sorted(dice.mixed(able)[:many_ties])))


def random_land(world, dice, most_cells=6, most_ties=9):
    many = max(0, most_cells - dice.one([0, 0, 1, 2, 3, 6]))
    return land_of(world, dice, [f"c{number}" for number in range(many)], dice.below(most_ties + 1))


def greatest_land(world, dice):
    """A land with 60 cells and 200 ties, if the pattern ties allow so many."""
    return land_of(world, dice, [f"cell{number}" for number in range(60)], 200)


def random_forest(world, dice, many):
    """A forest of so many cells, with names in any order: each cell tied to one before it, or beginning a piece."""
    names = dice.mixed([f"t{number}" for number in range(many)])
    marks = {}
    ties = []
    for name in names:
        marks[name] = dice.one(world[2])
        able = [
            (kind, *ends)
            for kind, begin, end in world[3] for one in marks for ends in ((one, name), (name, one))
            if one != name and (marks[ends[0]], marks[ends[1]]) == (begin, end)
        ]
        if able and dice.below(12):
            ties.append(dice.one(able))
    return (tuple(sorted(marks.items())), tuple(sorted(ties)))


def random_ahead(world, land, dice):
    lots = all_told(world)
    return {cell: dice.one(lots) for cell, mark in dice.mixed(land[0]) if dice.below(2) == 0}


def all_told(world):
    """TOLD LOTS by [2]: the common tiles of each number of the lots that are told, one more of them at a time."""
    base = [set(world[0])] + [{tile} for tile in world[0]] + [set(lot) for lot in world[4]]
    found = [set(world[0])]
    for lot in base:
        found += [met for met in [lot & one for one in found] if met not in found]
    return sorted({tuple(sorted(met)) for met in found if met})


def ascends(rows):
    return all(one < other for one, other in zip(rows, rows[1:]))


def tuples_of_strings(thing, many):
    return (
        type(thing) is tuple and len(thing) == many
        and all(type(part) is str for part in thing)
    )


def name_by_words(thing):
    signs = "abcdefghijklmnopqrstuvwxyz0123456789"
    return type(thing) is str and 0 < len(thing) < 13 and set(thing) <= set(signs) and not thing[0].isdigit()


def names_by_words(thing):
    return type(thing) is tuple and all(name_by_words(name) for name in thing) and ascends(thing)


def rows_by_words(thing, *choices):
    """An ascending tuple of tuples with an item of each choice."""
    return (
        type(thing) is tuple
        and all(tuples_of_strings(row, len(choices)) for row in thing)
        and all(part in choice for row in thing for part, choice in zip(row, choices))
        and ascends(thing)
    )


def world_by_words(thing):
    """Whether any value is a WORLD, as [2] defines it."""
    if type(thing) is not tuple or len(thing) != 5:
        return False
    tiles, tables, marks, ties, told = thing
    if not (names_by_words(tiles) and tiles and names_by_words(marks) and marks and type(tables) is tuple):
        return False
    if not all(type(row) is tuple and len(row) == 2 for row in tables):
        return False
    kinds = tuple(row[0] for row in tables)
    if not names_by_words(kinds) or not all(rows_by_words(couples, tiles, tiles) for _, couples in tables):
        return False
    if not rows_by_words(ties, kinds, marks, marks) or type(told) is not tuple:
        return False
    if not all(names_by_words(lot) and lot and set(lot) <= set(tiles) for lot in told) or not ascends(told):
        return False
    used = {kind for kind, one, other in ties}
    return all(
        {one for one, other in couples} == {other for one, other in couples} == set(tiles)
        for kind, couples in tables if kind in used
    )


def land_by_words(world, thing):
    """Whether any value is a LAND of the WORLD, as [2] defines it."""
    if type(thing) is not tuple or len(thing) != 2 or type(thing[0]) is not tuple:
        return False
    cells, ties = thing
    if not all(tuples_of_strings(row, 2) and row[1] in world[2] for row in cells):
        return False
    names = tuple(cell for cell, mark in cells)
    kinds = tuple(kind for kind, couples in world[1])
    if not names_by_words(names) or not rows_by_words(ties, kinds, names, names):
        return False
    marks = dict(cells)
    return all(one != other and (kind, marks[one], marks[other]) in world[3] for kind, one, other in ties)


def lot_by_words(world, thing):
    return names_by_words(thing) and len(thing) > 0 and set(thing) <= set(world[0])


def fits_by_words(world, kind, one, other):
    return (one, other) in dict(world[1])[kind]


def strikes_by_words(world, land, lots):
    """All STRIKES that can be done with what is left in the LOTS."""
    able = []
    for tie in land[1]:
        kind, one, other = tie
        for tile in lots[one]:
            if not any(fits_by_words(world, kind, tile, mate) for mate in lots[other]):
                able.append((one, tile, tie))
        for tile in lots[other]:
            if not any(fits_by_words(world, kind, mate, tile) for mate in lots[one]):
                able.append((other, tile, tie))
    return able


def look_by_words(world, land, lots, dice):
    """What a LOOK leaves that strikes in an order that the dice tell: the dict of lots, one perhaps empty; the row."""
    left = dict(lots)
    row = []
    while () not in left.values():
        able = strikes_by_words(world, land, left)
        if not able:
            break
        cell, tile, tie = dice.one(able)
        row.append((cell, tile, tie))
        left[cell] = tuple(one for one in left[cell] if one != tile)
    return left, tuple(row)


def first_by_words(world, land, ahead):
    return {cell: ahead.get(cell, world[0]) for cell, mark in land[0]}
