"""Point 16: texts of lands, of what is told ahead, of tiles that are laid, and pictures."""

import unittest

from laidanyhow.errors import NoText, Wrong
from laidanyhow.lands import grid
from laidanyhow.landtexts import ahead_text, land_text, picture, read_ahead, read_land, read_tiles, tiles_text
from tests.samples import COAST, STONES, TRIANGLE, TURNS, Dice, greatest_land, land_by_words, odd_values, random_ahead
from tests.samples import random_land, random_world, world_by_words

BOTH = ((("c0", "m"), ("c1", "n")), (("r", "c0", "c1"), ("r", "c1", "c0")))
CELLS = "cell x m\ncell y n\ncell z m\n"

LAND_FAULTS = [
    ("cells x m", 0, 0),
    ("tile a", 0, 0),
    ("ahead x a", 0, 0),
    ("cell", 0, 1),
    ("cell X m", 0, 1),
    ("cell 1x q", 0, 1),
    ("cell abcdefghijklm m", 0, 1),
    ("cell x", 0, 2),
    ("cell x q", 0, 2),
    ("cell x q r", 0, 2),
    ("cell x M", 0, 2),
    ("cell x m n", 0, 3),
    ("cell x m\ncell x n", 1, 1),
    ("cell x m\n\n# no\ncell y m\ncell x", 4, 1),
    ("tie", 0, 1),
    (CELLS + "tie", 3, 1),
    (CELLS + "tie q x y", 3, 1),
    (CELLS + "tie x x y", 3, 1),
    (CELLS + "tie r", 3, 2),
    (CELLS + "tie r w y", 3, 2),
    (CELLS + "tie r m y", 3, 2),
    (CELLS + "tie r w w", 3, 2),
    (CELLS + "tie r x", 3, 3),
    (CELLS + "tie r x w", 3, 3),
    (CELLS + "tie r x x", 3, 3),
    (CELLS + "tie r x z", 3, 3),
    (CELLS + "tie r x z y", 3, 3),
    (CELLS + "tie r x y z", 3, 4),
    (CELLS + "tie r x y\ntie r x y", 4, 3),
    (CELLS + "tie r x y\ntie r x y z", 4, 3),
    (CELLS + "tie r x y\ntie r y x\ntie r z y\ntie r y x", 6, 3),
    ("tie r x y\n" + CELLS + "tie r x y", 4, 3),
    # The marks are those of the first lines of the cells, also of lines that are at fault themselves.
    ("tie r x y\ncell x m\ncell y m", 0, 3),
    ("tie r x y\ncell x m\ncell y n\ncell y m", 3, 1),
    ("tie r x y\ncell x m\ncell y m\ncell y n", 0, 3),
    ("tie r x y\ncell x\ncell y n", 0, 3),
    ("tie r x y\ncell x m\ncell y", 0, 3),
    ("tie r x y\ncell x m\ncell y q", 0, 3),
    ("tie r x y\ncell x m q\ncell y n", 1, 3),
    ("tie r X y\ncell X m\ncell y n", 1, 1),
    ("tie r x y\ncell x m # cell y n", 0, 3),
    ("tie r y x\ncell x m # cell y n", 0, 2),
]

AHEAD_FAULTS = [
    ("lay x a", 0, 0),
    ("cell x m", 0, 0),
    ("ahead", 0, 1),
    ("ahead w a", 0, 1),
    ("ahead a x", 0, 1),
    ("ahead X q", 0, 1),
    ("ahead x", 0, 2),
    ("ahead x q", 0, 2),
    ("ahead x q a", 0, 2),
    ("ahead x x", 0, 2),
    ("ahead x a q", 0, 3),
    ("ahead x a a", 0, 3),
    ("ahead x a b a", 0, 4),
    ("ahead x a a b", 0, 3),
    ("ahead x b b a s", 0, 3),
    ("ahead x a s", 0, 3),
    ("ahead x s b", 0, 3),
    ("ahead x s b s", 0, 4),
    ("ahead x a b s q", 0, 5),
    ("ahead x a\nahead x a", 1, 1),
    ("ahead x a\n#\n ahead  x  q", 2, 1),
    ("ahead y b a\nahead x a\nahead y", 2, 1),
    ("ahead x a#b\nahead y a #s\nahead z #a", 2, 2),
    ("ahead x a\nahead y a q\nlook", 1, 3),
]

LAY_FAULTS = [
    ("ahead x a", 0, 0),
    ("lays x a", 0, 0),
    ("lay", 0, 1),
    ("lay w a", 0, 1),
    ("lay a x", 0, 1),
    ("lay x", 0, 2),
    ("lay x q", 0, 2),
    ("lay x x", 0, 2),
    ("lay x q a", 0, 2),
    ("lay x a b", 0, 3),
    ("lay x a\nlay x b", 1, 1),
    ("lay x a\nlay y b\n\nlay x", 3, 1),
    ("lay x a # b\nlay y # b", 1, 2),
]


def loosened(text, dice):
    """The same lines in another order, with remarks, further blanks and empty lines."""
    rows = []
    for row in dice.mixed(text.split("\n")):
        words = row.split(" ")
        if words[0] == "ahead":
            words = words[:2] + dice.mixed(words[2:])
        row = "".join(" " * (1 + dice.below(3)) + word for word in words)
        rows.append(row[dice.below(2):] + " " * dice.below(3) + dice.one(["", "#", "# cell", "#lay x a"]))
        if dice.below(3) == 0:
            rows.append(dice.one(["", "  ", "# nothing", " #tie"]))
    return "\n".join(rows)


class Texts(unittest.TestCase):
    def test_land_text(self):
        self.assertEqual(land_text(BOTH), "cell c0 m\ncell c1 n\ntie r c0 c1\ntie r c1 c0")
        self.assertEqual(land_text(((), ())), "")
        self.assertEqual(land_text(((("x", "m"),), ())), "cell x m")

    def test_ahead_text(self):
        ahead = {"y": ("s",), "x": ("a", "b", "s"), "c10": ("b",), "c9": ("a", "b")}
        self.assertEqual(ahead_text(ahead), "ahead c10 b\nahead c9 a b\nahead x a b s\nahead y s")
        self.assertEqual(ahead_text({}), "")

    def test_tiles_text(self):
        tiles = {"y": "s", "x": "a", "c10": "b", "c9": "a"}
        self.assertEqual(tiles_text(tiles), "lay c10 b\nlay c9 a\nlay x a\nlay y s")
        self.assertEqual(tiles_text({}), "")

    def test_picture(self):
        rows = (("m", "n", "m"), ("n", "m", "n"))
        lots = {
            "r1c2": ("a", "b"), "r0c0": ("a",), "r0c1": ("b",), "r0c2": ("a", "b"), "r1c0": ("b",), "r1c1": ("a",),
        }
        self.assertEqual(picture(rows, lots), "a b a/b\nb a a/b")
        self.assertEqual([picture((), {}), picture(((),), {}), picture(((), ()), {})], ["", "", "\n"])
        self.assertEqual(picture((("m",),), {"r0c0": ("a", "b", "s")}), "a/b/s")

    def test_picture_of_twelve(self):
        rows = (("m",) * 12,) * 12
        lots = {cell: ("a",) for cell, mark in grid(STONES, rows, "r", "r")[0]}
        lots["r10c11"] = ("a", "b")
        drawn = picture(rows, lots).split("\n")
        self.assertEqual(drawn[10], "a " * 11 + "a/b")
        self.assertEqual([drawn[number] for number in range(12) if number != 10], ["a " * 11 + "a"] * 11)


class Readers(unittest.TestCase):
    def told(self, call, *given):
        with self.assertRaises(NoText) as caught:
            call(*given)
        return caught.exception.line, caught.exception.column

    def test_there_and_back(self):
        for seed in range(150):
            dice = Dice(seed)
            world = random_world(dice)
            land = random_land(world, dice)
            ahead = random_ahead(world, land, dice)
            tiles = {cell: dice.one(world[0]) for cell, mark in dice.mixed(land[0]) if dice.below(2)}
            for text in (land_text(land), loosened(land_text(land), dice)):
                self.assertEqual(read_land(world, text), land)
            for text in (ahead_text(ahead), loosened(ahead_text(ahead), dice)):
                read = read_ahead(world, land, text)
                self.assertEqual([read, list(read)], [ahead, sorted(ahead)])
            for text in (tiles_text(tiles), loosened(tiles_text(tiles), dice)):
                read = read_tiles(world, land, text)
                self.assertEqual([read, list(read)], [tiles, sorted(tiles)])

    def test_the_greatest_size(self):
        dice = Dice(3)
        land = greatest_land(COAST, dice)
        ahead = random_ahead(COAST, land, dice)
        tiles = {cell: dice.one(COAST[0]) for cell, mark in land[0]}
        self.assertEqual(read_land(COAST, loosened(land_text(land), dice)), land)
        self.assertEqual(read_ahead(COAST, land, loosened(ahead_text(ahead), dice)), ahead)
        self.assertEqual(read_tiles(COAST, land, loosened(tiles_text(tiles), dice)), tiles)

    def test_no_lines(self):
        for text in ("", "\n", "  \n\n   ", "# cell\n #", "#"):
            self.assertEqual(read_land(TURNS, text), ((), ()))
            self.assertEqual(read_ahead(TURNS, BOTH, text), {})
            self.assertEqual(read_tiles(TURNS, ((), ()), text), {})

    def test_cells_with_the_names_of_words(self):
        world = (
            ("ahead", "lay"), (("tie", (("ahead", "lay"), ("lay", "ahead"))),), ("cell",), (("tie", "cell", "cell"),),
            (),
        )
        text = "tie tie tie cell\ncell tie cell\ntie tie lay tie\ncell cell cell\ncell lay cell"
        land = read_land(world, text)
        self.assertEqual(land, (
            (("cell", "cell"), ("lay", "cell"), ("tie", "cell")), (("tie", "lay", "tie"), ("tie", "tie", "cell")),
        ))
        ahead = read_ahead(world, land, "ahead tie lay ahead\nahead lay lay")
        self.assertEqual(ahead, {"lay": ("lay",), "tie": ("ahead", "lay")})
        self.assertEqual(read_tiles(world, land, "lay tie ahead\nlay lay lay"), {"lay": "lay", "tie": "ahead"})

    def test_land_faults(self):
        for text, line, column in LAND_FAULTS:
            with self.subTest(text):
                self.assertEqual(self.told(read_land, TURNS, text), (line, column))

    def test_ahead_faults(self):
        for text, line, column in AHEAD_FAULTS:
            with self.subTest(text):
                self.assertEqual(self.told(read_ahead, STONES, TRIANGLE, text), (line, column))

    def test_lay_faults(self):
        for text, line, column in LAY_FAULTS:
            with self.subTest(text):
                self.assertEqual(self.told(read_tiles, STONES, TRIANGLE, text), (line, column))

    def test_every_told_lot_and_no_other(self):
        for words in ("a", "b", "s", "b a", "a b s", "s b a"):
            self.assertEqual(read_ahead(STONES, TRIANGLE, "ahead y " + words), {"y": tuple(sorted(words.split(" ")))})
        for words in ("a s", "s b"):
            self.assertEqual(self.told(read_ahead, STONES, TRIANGLE, "ahead y " + words), (0, 3))

    def test_no_land_of_its_pattern(self):
        self.assertEqual(self.told(read_land, COAST, "cell u any\ncell w shore\ntie near u w"), (2, 3))
        self.assertEqual(self.told(read_land, COAST, "cell u any\ncell w any\ntie seldom u w"), (2, 3))
        self.assertEqual(
            read_land(COAST, "cell u any\ncell w any\ntie near w u\ntie by u w\ntie by w u"),
            ((("u", "any"), ("w", "any")), (("by", "u", "w"), ("by", "w", "u"), ("near", "w", "u"))),
        )

    def test_no_cell_is_tied_to_itself(self):
        for text, line in (("cell x m\ntie r x x", 1), ("tie r x x\ncell x m", 0), ("cell x m\ntie r x x m", 1)):
            self.assertEqual(self.told(read_land, STONES, text), (line, 3))

    def test_wrong_worlds(self):
        for thing in odd_values():
            if world_by_words(thing):
                continue
            for call, rest in ((read_land, ("",)), (read_land, (None,)), (read_ahead, (BOTH, "")),
                               (read_ahead, (None, 3)), (read_tiles, (BOTH, "")), (read_tiles, ([], []))):
                self.wrong(0, call, thing, *rest)

    def test_wrong_lands_and_texts(self):
        for thing in odd_values():
            for call in (read_ahead, read_tiles):
                if not land_by_words(TURNS, thing):
                    self.wrong(1, call, TURNS, thing, "")
                    self.wrong(1, call, TURNS, thing, None)
                    self.wrong(1, call, TURNS, thing, "tale")
                if not isinstance(thing, str):
                    self.wrong(2, call, TURNS, BOTH, thing)
            if not isinstance(thing, str):
                self.wrong(1, read_land, TURNS, thing)

    def test_lands_of_another_world(self):
        self.wrong(1, read_ahead, COAST, BOTH, "")
        self.wrong(1, read_tiles, STONES, BOTH, "")

    def test_any_string(self):
        for thing in odd_values():
            if isinstance(thing, str) and thing.strip(" \n") not in ("", "#"):
                self.assertEqual(self.told(read_land, TURNS, thing)[1], 0)
                self.assertEqual(self.told(read_ahead, TURNS, BOTH, thing)[1], 0)
                self.assertEqual(self.told(read_tiles, TURNS, BOTH, thing)[1], 0)

    def wrong(self, place, call, *given):
        with self.assertRaises(Wrong) as caught:
            call(*given)
        self.assertEqual(caught.exception.place, place)
