"""Point 35: worlds learned from pictures, and pictures woven of windows."""

import unittest

from laidanyhow.errors import Nothing, TooMany
from laidanyhow.forms import is_land
from laidanyhow.guides import is_sure
from laidanyhow.house import House
from laidanyhow.layings import is_laying, least_laying
from laidanyhow.lands import grid
from laidanyhow.learned import as_laid, is_picture, learned, learned_windows, woven
from tests.samples import Dice, name_by_words, nearly, odd_values, world_by_words

PICTURE = (("m", "m", "s"), ("m", "s", "m"), ("s", "m", "m"))


def random_picture(dice, most=5, names="abc"):
    high, wide = 1 + dice.below(most), 1 + dice.below(most)
    some = names[:1 + dice.below(len(names))]
    return tuple(tuple(dice.one(some) for _ in range(wide)) for _ in range(high))


def stripes(dice):
    """A picture of few unlike windows: a row that comes again, moved by a step in each row."""
    period = dice.one(["ab", "aab", "abb", "a", "aabb"])
    step, high, wide = dice.below(3), 2 + dice.below(5), 3 + dice.below(6)
    return tuple(tuple(period[(j + i * step) % len(period)] for j in range(wide)) for i in range(high))


def is_picture_by_words(thing):
    if type(thing) is not tuple or not thing or not all(type(row) is tuple for row in thing):
        return False
    if len({len(row) for row in thing}) != 1 or thing[0] == ():
        return False
    return all(name_by_words(name) for row in thing for name in row)


def trimmed_by_words(tiles, tables, ties):
    """The TILES and the tables that are left, None if no TILE is."""
    used = {kind for kind, one, other in ties}
    while True:
        tables = {
            kind: [row for row in couples if row[0] in tiles and row[1] in tiles] for kind, couples in tables.items()
        }
        left = [
            tile for tile in tiles
            if all(any(row[0] == tile for row in tables[kind]) and any(row[1] == tile for row in tables[kind])
                   for kind in used)
        ]
        if left == tiles:
            return (left, tables) if left else None
        tiles = left


def world_of(tiles, down, right, ties):
    """The trimmed WORLD, None if no TILE is left."""
    left = trimmed_by_words(sorted(tiles), {"down": sorted(down), "right": sorted(right)}, ties)
    if left is None:
        return None
    tiles, tables = left
    return (tuple(tiles), tuple((kind, tuple(tables[kind])) for kind in sorted(tables)), ("any",), tuple(ties), ())


def learned_by_words(picture):
    high, wide = len(picture), len(picture[0])
    down = {(picture[i][j], picture[i + 1][j]) for i in range(high - 1) for j in range(wide)}
    right = {(picture[i][j], picture[i][j + 1]) for i in range(high) for j in range(wide - 1)}
    ties = [(kind, "any", "any") for kind, couples in (("down", down), ("right", right)) if couples]
    return world_of({name for row in picture for name in row}, down, right, ties)


def windows_by_words(picture, high, wide):
    return sorted({
        tuple(tuple(picture[i + a][j + b] for b in range(wide)) for a in range(high))
        for i in range(len(picture) - high + 1) for j in range(len(picture[0]) - wide + 1)
    })


def learned_windows_by_words(picture, high, wide):
    """What learned_windows returns, or the error that it raises."""
    windows = windows_by_words(picture, high, wide)
    if len(windows) > 4:
        return TooMany
    shapes = {f"w{index}": window for index, window in enumerate(windows)}
    down, right = set(), set()
    for one, above in shapes.items():
        for other, below in shapes.items():
            if all(above[a + 1][b] == below[a][b] for a in range(high - 1) for b in range(wide)):
                down.add((one, other))
            if all(above[a][b + 1] == below[a][b] for a in range(high) for b in range(wide - 1)):
                right.add((one, other))
    world = world_of(shapes, down, right, [("down", "any", "any"), ("right", "any", "any")])
    return Nothing if world is None else (world, {tile: shapes[tile] for tile in world[0]})


class Pictures(unittest.TestCase):
    def test_is_picture(self):
        for thing in (PICTURE, (("a",),), (("a", "b2"),), (("a",), ("b",)), (("abcdefghijk9",) * 50,) * 40):
            self.assertIs(is_picture(thing), True)
        wrong = [
            (), ((),), ((), ()), (("a",), ()), (("a",), ("a", "b")), (("A",),), (("a", ""),), (["a"],), [("a",)],
            ("a",), (("a", None),), (("2a",),), (("abcdefghijklm",),), "a", (("a b",),), ((("a",),),),
        ]
        for thing in wrong:
            self.assertIs(is_picture(thing), False)
        things = [*odd_values(), *nearly(PICTURE), *((value,) for value in odd_values())]
        for thing in (*things, *(((value,),) for value in odd_values()), *((("a", value),) for value in odd_values())):
            self.assertIs(is_picture(thing), is_picture_by_words(thing), repr(thing)[:100])


class Learned(unittest.TestCase):
    def test_learned(self):
        answers = {"nothing": 0, "all": 0, "trimmed": 0, "one kind": 0}
        for seed in range(300):
            dice = Dice(seed)
            picture = stripes(dice) if seed % 3 == 0 else random_picture(dice)
            expected = learned_by_words(picture)
            if expected is None:
                with self.assertRaises(Nothing):
                    learned(picture)
                answers["nothing"] += 1
                continue
            self.assertEqual(learned(picture), expected)
            self.assertTrue(world_by_words(expected))
            whole = {name for row in picture for name in row} == set(expected[0])
            answers["all" if whole else "trimmed"] += 1
            answers["one kind"] += len(expected[3]) == 1
        self.assertTrue(min(answers.values()) > 10, answers)

    def test_edges(self):
        self.assertEqual(learned((("a",),)), (("a",), (("down", ()), ("right", ())), ("any",), (), ()))
        self.assertEqual(
            learned((("a", "a"),)),
            (("a",), (("down", ()), ("right", (("a", "a"),))), ("any",), (("right", "any", "any"),), ())
        )
        self.assertEqual(
            learned((("b",), ("b",))),
            (("b",), (("down", (("b", "b"),)), ("right", ())), ("any",), (("down", "any", "any"),), ())
        )
        for picture in ((("a", "b"),), (("a",), ("b",)), (("a", "b"), ("c", "d")), (("a", "b", "c", "a"), ("d",) * 4)):
            with self.assertRaises(Nothing):
                learned(picture)
        # Going round from a to b and c and back, though d and e are left out.
        self.assertEqual(learned((("d", "a", "b", "c", "a", "e"),))[0], ("a", "b", "c"))

    def test_many_names(self):
        names = tuple(f"n{number}" for number in range(9))
        world = learned((names + names,))
        self.assertEqual(world[0], names)
        self.assertEqual(len(dict(world[1])["right"]), 9)
        land, tiles = as_laid(world, (names + names,))
        self.assertTrue(is_laying(world, land, {}, tiles))

    def test_worlds_of_many_tiles_may_be_passed_in_again(self):
        names = tuple(f"n{number:02d}" for number in range(40))
        picture = (names + names,) * 2
        world = learned(picture)
        land, tiles = as_laid(world, picture)
        house = House(world, land)
        house.lay("r0c5", "n07")
        self.assertEqual([house.can("r0c6"), house.can("r1c5")], [("n08",), ("n07",)])
        house.finish()
        self.assertEqual(house.ahead()["r1c70"], ("n32",))
        self.assertEqual(least_laying(world, land, {}), tiles)
        self.assertFalse(is_sure(world))

    def test_as_laid(self):
        layings = 0
        for seed in range(300):
            dice = Dice(seed)
            picture = stripes(dice) if seed % 3 == 0 else random_picture(dice)
            world = learned_by_words(picture)
            if world is None:
                continue
            land, tiles = as_laid(world, picture)
            self.assertTrue(is_land(world, land))
            kinds = [kind for kind, one, other in world[3]]
            expected = grid(
                world, tuple(("any",) * len(row) for row in picture), "right" if "right" in kinds else None,
                "down" if "down" in kinds else None,
            )
            self.assertEqual(land, expected)
            names = {f"r{i}c{j}": name for i, row in enumerate(picture) for j, name in enumerate(row)}
            self.assertEqual(list(tiles.items()), sorted(names.items()))
            if set(world[0]) == set(names.values()):
                self.assertTrue(is_laying(world, land, {}, tiles))
                layings += 1
        self.assertGreater(layings, 60)

    def test_as_laid_of_kinds_without_pattern_ties(self):
        row, column = (("a", "a", "a"),), (("a",), ("a",))
        self.assertEqual(as_laid(learned(row), row)[0][1], (("right", "r0c0", "r0c1"), ("right", "r0c1", "r0c2")))
        self.assertEqual(as_laid(learned(column), column)[0][1], (("down", "r0c0", "r1c0"),))
        self.assertEqual(as_laid(learned((("a",),)), (("a",),)), (((("r0c0", "any"),), ()), {"r0c0": "a"}))
        wide = (("a",) * 12,)
        land, tiles = as_laid(learned(wide), wide)
        self.assertEqual(list(tiles)[:4], ["r0c0", "r0c1", "r0c10", "r0c11"])
        self.assertEqual(land[0][2], ("r0c10", "any"))


class Windows(unittest.TestCase):
    def test_learned_windows(self):
        answers = {TooMany: 0, Nothing: 0, tuple: 0, "trimmed": 0}
        for seed in range(400):
            dice = Dice(seed)
            picture = stripes(dice) if seed % 2 else random_picture(dice, 5, "abc")
            high, wide = 1 + dice.below(len(picture)), 1 + dice.below(len(picture[0]))
            expected = learned_windows_by_words(picture, high, wide)
            if expected in (TooMany, Nothing):
                with self.assertRaises(expected) as caught:
                    learned_windows(picture, high, wide)
                if expected is TooMany:
                    self.assertEqual(caught.exception.most, 4)
                answers[expected] += 1
                continue
            world, shapes = learned_windows(picture, high, wide)
            self.assertEqual((world, shapes), expected)
            self.assertEqual(list(shapes), list(world[0]))
            self.assertTrue(world_by_words(world))
            answers[tuple] += 1
            answers["trimmed"] += len(shapes) < len(windows_by_words(picture, high, wide))
        self.assertTrue(min(answers.values()) > 5, answers)

    def test_windows_of_one_place_and_as_great_as_the_picture(self):
        world, shapes = learned_windows((("a", "b"), ("b", "a")), 1, 1)
        self.assertEqual(shapes, {"w0": (("a",),), "w1": (("b",),)})
        both = (("w0", "w0"), ("w0", "w1"), ("w1", "w0"), ("w1", "w1"))
        self.assertEqual(world[1], (("down", both), ("right", both)))
        world, shapes = learned_windows((("a", "a"), ("a", "a")), 2, 2)
        self.assertEqual((world[0], shapes), (("w0",), {"w0": (("a", "a"), ("a", "a"))}))
        with self.assertRaises(Nothing):
            learned_windows((("a", "b"), ("b", "a")), 2, 2)
        with self.assertRaises(Nothing):
            learned_windows((("a", "b"),), 1, 2)
        world, shapes = learned_windows((("a", "b"),), 1, 1)
        self.assertEqual(world[3], (("down", "any", "any"), ("right", "any", "any")))

    def test_just_four_and_more(self):
        row = ("a", "b", "c", "d")
        self.assertEqual(len(learned_windows((row,), 1, 1)[1]), 4)
        for picture, high, wide in ((((*row, "e"),), 1, 1), (((*row, *row, "a", "a"),), 1, 2)):
            with self.assertRaises(TooMany) as caught:
                learned_windows(picture, high, wide)
            self.assertEqual(caught.exception.most, 4)
        # There are five, of which none would be left.
        with self.assertRaises(TooMany):
            learned_windows((("a", "b", "c", "d", "e", "f"),), 1, 2)
        with self.assertRaises(Nothing):
            learned_windows((("a", "b", "c", "d", "e"),), 1, 2)

    def test_names_keep_their_windows_when_others_are_left_out(self):
        # The window of a and b has none before it, that of d and d is followed by itself.
        world, shapes = learned_windows((("a", "b", "d", "d"),), 1, 2)
        self.assertEqual(shapes, {"w2": (("d", "d"),)})
        self.assertEqual(world, (("w2",), (("down", (("w2", "w2"),)), ("right", (("w2", "w2"),))), ("any",),
                                 (("down", "any", "any"), ("right", "any", "any")), ()))

    def test_woven_of_the_windows_of_the_picture(self):
        woven_again = 0
        for seed in range(300):
            dice = Dice(seed)
            picture = stripes(dice)
            high, wide = 1 + dice.below(len(picture)), 1 + dice.below(len(picture[0]))
            learnt = learned_windows_by_words(picture, high, wide)
            windows = windows_by_words(picture, high, wide)
            if learnt in (TooMany, Nothing) or len(learnt[1]) < len(windows):
                continue
            world, shapes = learnt
            names = {window: tile for tile, window in shapes.items()}
            tiles = {}
            for i in range(len(picture) - high + 1):
                for j in range(len(picture[0]) - wide + 1):
                    tiles[f"r{i}c{j}"] = names[tuple(row[j:j + wide] for row in picture[i:i + high])]
            self.assertEqual(woven(shapes, {cell: tiles[cell] for cell in dice.mixed(tiles)}), picture)
            woven_again += 1
        self.assertGreater(woven_again, 60)

    def test_woven_of_layings(self):
        wovens = 0
        for seed in range(150):
            dice = Dice(seed)
            picture = stripes(dice)
            high, wide = 1 + dice.below(min(3, len(picture))), 1 + dice.below(3)
            learnt = learned_windows_by_words(picture, high, wide)
            if learnt in (TooMany, Nothing):
                continue
            world, shapes = learnt
            rows, columns = 1 + dice.below(3), 1 + dice.below(3)
            land = grid(world, (("any",) * columns,) * rows, "right", "down")
            tiles = least_laying(world, land, {"r0c0": (dice.one(world[0]),)})
            if tiles is None:
                continue
            found = woven(shapes, tiles)
            self.assertTrue(is_picture_by_words(found))
            self.assertEqual((len(found), len(found[0])), (rows + high - 1, columns + wide - 1))
            self.assertLessEqual(set(windows_by_words(found, high, wide)), set(shapes.values()))
            for i in range(rows):
                for j in range(columns):
                    part = tuple(row[j:j + wide] for row in found[i:i + high])
                    self.assertEqual(part, shapes[tiles[f"r{i}c{j}"]])
            wovens += 1
        self.assertGreater(wovens, 50)

    def test_woven_of_grids_with_more_than_ten_columns(self):
        shapes = {"w0": (("a", "b"),), "w1": (("b", "a"),)}
        tiles = {f"r{i}c{j}": f"w{j % 2}" for i in range(11) for j in range(12)}
        self.assertEqual(woven(shapes, tiles), (("a", "b") * 6 + ("a",),) * 11)
        self.assertEqual(woven({"w3": (("a",), ("b",))}, {"r0c0": "w3"}), (("a",), ("b",)))
