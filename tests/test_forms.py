"""Point 12: the forms."""

import copy
import unittest

from laidanyhow.errors import Wrong
from laidanyhow.forms import are_lots, are_picks, is_ahead, is_integer, is_land, is_lot, is_name, is_tiling, is_told
from laidanyhow.forms import is_world
from tests.samples import COAST, STONES, TRIANGLE, WORLDS, Dice, all_told, land_by_words, lot_by_words, name_by_words
from tests.samples import nearly, odd_values, random_ahead, random_land, random_world, world_by_words

SHORE_LAND = (
    (("u", "any"), ("v", "shore"), ("w", "any")),
    (("by", "u", "v"), ("by", "u", "w"), ("by", "v", "u"), ("by", "v", "w"), ("near", "w", "u")),
)


class Forms(unittest.TestCase):
    def check(self, call, things, rule):
        """The call tells True or False of each thing as the rule does, and changes nothing."""
        answers = set()
        for thing in things:
            shown = repr(thing)
            told = call(thing)
            self.assertIs(told, bool(rule(thing)), shown[:300])
            self.assertEqual(repr(thing), shown)
            answers.add(told)
        return answers

    def test_is_integer(self):
        self.check(is_integer, odd_values(), lambda thing: type(thing) is int)
        self.check(is_integer, [-7, 0, 10 ** 40], lambda thing: True)

    def test_is_name(self):
        self.check(is_name, odd_values(), name_by_words)
        self.check(is_name, ["a", "z9", "abcdefghijkl", "a00000000000"], lambda thing: True)
        wrong = [
            "", "9a", "abcdefghijklm", "A", "aB", "a b", " a", "a ", "a\n", "a_", "a-", "`", "{", "a{", "a/", "a:", "#",
            b"a", ["a"], ("a",), "\u00e4", "a\u0661", "\uff41",
        ]
        self.check(is_name, wrong, lambda thing: False)

    def test_is_world(self):
        self.assertEqual(self.check(is_world, WORLDS, lambda thing: True), {True})
        self.check(is_world, odd_values(), world_by_words)
        for world in WORLDS:
            self.assertEqual(self.check(is_world, nearly(world), world_by_words), {True, False})

    def test_is_world_of_random_worlds(self):
        for seed in range(200):
            dice = Dice(seed)
            world = random_world(dice)
            self.assertTrue(is_world(world))
            cut = dice.below(5)
            other = world[:cut] + random_world(dice)[cut:cut + 1] + world[cut + 1:]
            self.assertIs(is_world(other), world_by_words(other))

    def test_is_lot(self):
        for world in WORLDS:
            self.check(lambda thing: is_lot(world, thing), odd_values(), lambda thing: lot_by_words(world, thing))
            self.check(
                lambda thing: is_lot(world, thing), nearly(world[0]), lambda thing: lot_by_words(world, thing)
            )

    def test_is_told(self):
        for seed in range(150):
            dice = Dice(seed)
            world = random_world(dice)
            told = all_told(world)
            lots = [tuple(sorted(dice.some(world[0]))) for _ in range(8)]
            self.check(lambda thing: is_told(world, thing), lots + told, lambda thing: thing in told)

    def test_is_told_of_common_tiles(self):
        world = (("a", "b", "c", "d"), (), ("m",), (), (("a", "b", "c"), ("a", "b", "d"), ("b", "c", "d")))
        right = [("a", "b"), ("b", "c"), ("b", "d"), ("b",), ("a", "b", "c", "d"), ("a", "b", "d")]
        wrong = [("a", "c"), ("a", "d"), ("c", "d"), ("a", "c", "d"), (), ["a", "b"], ("b", "a"), "ab", None]
        self.check(lambda thing: is_told(world, thing), right, lambda thing: True)
        self.check(lambda thing: is_told(world, thing), wrong + odd_values()[:20], lambda thing: False)

    def test_is_told_of_odd_values(self):
        told = [("a",), ("b",), ("s",), ("a", "b"), ("a", "b", "s")]
        self.check(
            lambda thing: is_told(STONES, thing), odd_values(), lambda thing: type(thing) is tuple and thing in told
        )

    def test_is_land(self):
        for world, land in ((STONES, TRIANGLE), (COAST, SHORE_LAND)):
            self.assertTrue(is_land(world, land))
            self.check(lambda thing: is_land(world, thing), odd_values(), lambda thing: land_by_words(world, thing))
            answers = self.check(
                lambda thing: is_land(world, thing), nearly(land), lambda thing: land_by_words(world, thing)
            )
            self.assertEqual(answers, {True, False})

    def test_is_land_of_another_world(self):
        self.assertFalse(is_land(COAST, TRIANGLE))
        self.assertFalse(is_land(STONES, SHORE_LAND))
        for seed in range(150):
            dice = Dice(seed)
            land = random_land(random_world(dice), dice)
            world = random_world(dice)
            self.assertIs(is_land(world, land), land_by_words(world, land))

    def test_is_ahead(self):
        def rule(thing):
            cells = [cell for cell, mark in SHORE_LAND[0]]
            return type(thing) is dict and all(
                type(cell) is str and cell in cells and type(lot) is tuple and lot in told
                for cell, lot in thing.items()
            )

        told = all_told(COAST)
        ahead = {"w": ("meadow",), "u": ("meadow", "sand")}
        for right in (ahead, {}, {"v": COAST[0]}, {"u": ("sand",), "v": ("sand", "water"), "w": ("water",)}):
            self.assertTrue(is_ahead(COAST, SHORE_LAND, right))
        self.check(lambda thing: is_ahead(COAST, SHORE_LAND, thing), odd_values(), rule)
        self.assertEqual(
            self.check(lambda thing: is_ahead(COAST, SHORE_LAND, thing), nearly(ahead), rule), {True, False}
        )
        for wrong in ({"u": ("meadow", "water")}, {"u": "sand"}, {"u": ["sand"]}, {"u": ()}, {"x": ("sand",)}, ()):
            self.assertFalse(is_ahead(COAST, SHORE_LAND, wrong))

    def test_is_ahead_of_random_lands(self):
        for seed in range(100):
            dice = Dice(seed)
            world = random_world(dice)
            land = random_land(world, dice)
            self.assertTrue(is_ahead(world, land, random_ahead(world, land, dice)))

    def test_are_lots(self):
        def rule(thing):
            return (
                type(thing) is dict and set(thing) == {"u", "v", "w"}
                and all(lot_by_words(COAST, lot) for lot in thing.values())
            )

        lots = {"w": ("meadow", "water"), "u": ("sand",), "v": COAST[0]}
        self.assertTrue(are_lots(COAST, SHORE_LAND, lots))
        self.check(lambda thing: are_lots(COAST, SHORE_LAND, thing), odd_values(), rule)
        self.assertEqual(
            self.check(lambda thing: are_lots(COAST, SHORE_LAND, thing), nearly(lots), rule), {True, False}
        )
        self.assertTrue(are_lots(COAST, ((), ()), {}))
        self.assertFalse(are_lots(COAST, ((), ()), ()))
        self.assertFalse(are_lots(COAST, SHORE_LAND, {**lots, "w": ()}))

    def test_is_tiling(self):
        def rule(thing):
            return (
                type(thing) is dict and set(thing) == {"u", "v", "w"}
                and all(type(tile) is str and tile in COAST[0] for tile in thing.values())
            )

        tiling = {"w": "meadow", "v": "meadow", "u": "water"}
        self.assertTrue(is_tiling(COAST, SHORE_LAND, tiling))
        self.check(lambda thing: is_tiling(COAST, SHORE_LAND, thing), odd_values(), rule)
        self.check(lambda thing: is_tiling(COAST, SHORE_LAND, thing), nearly(tiling), rule)
        self.assertTrue(is_tiling(COAST, ((), ()), {}))
        self.assertFalse(is_tiling(COAST, SHORE_LAND, {}))

    def test_are_picks(self):
        def rule(thing):
            return type(thing) is tuple and all(
                type(row) is tuple and len(row) == 2 and type(row[0]) is str and row[0] in ("u", "v", "w")
                and type(row[1]) is str and row[1] in COAST[0]
                for row in thing
            )

        picks = (("u", "sand"), ("u", "water"), ("w", "sand"))
        self.assertTrue(are_picks(COAST, SHORE_LAND, picks))
        self.assertTrue(are_picks(COAST, SHORE_LAND, ()))
        self.check(lambda thing: are_picks(COAST, SHORE_LAND, thing), odd_values(), rule)
        self.assertEqual(
            self.check(lambda thing: are_picks(COAST, SHORE_LAND, thing), nearly(picks), rule), {True, False}
        )
        self.assertFalse(are_picks(COAST, ((), ()), picks))

    def test_any_value_beside_other_worlds(self):
        for world in WORLDS:
            for thing in odd_values():
                before = copy.deepcopy(world)
                for call in (is_lot, is_told, is_land):
                    self.assertIn(call(world, thing), (True, False))
                for call in (is_ahead, are_lots, is_tiling, are_picks):
                    self.assertIn(call(world, ((), ()), thing), (True, False))
                self.assertEqual(world, before)

    def test_objects_as_keys(self):
        self.assertFalse(is_ahead(STONES, TRIANGLE, {Wrong(0): ("a",)}))
        self.assertFalse(are_lots(STONES, TRIANGLE, {Wrong(0): ("a",), "x": ("a",), "y": ("a",)}))
