"""Points 8 and 27: tries, what can stand, rows of picks, and how few come to grief."""

import itertools
import unittest

from laidanyhow.errors import NoPick, NoTile, TooMany
from laidanyhow.free import is_free, is_stuck
from laidanyhow.guides import is_sure
from laidanyhow.lands import grid, ring
from laidanyhow.layings import is_laying, least_laying
from laidanyhow.looks import are_let, look
from laidanyhow.tried import built, can_stand, grief, led, must_stand, tried
from tests.by_words import layings_by_words, left_by_words
from tests.samples import COAST, LONE, STONES, TRIANGLE, TURNS, WORLDS, Dice, all_told, great_world, greatest_land
from tests.samples import land_of, random_ahead, random_forest, random_land, random_world

SHORE = (
    ("m", "s", "w"), (("by", (("m", "m"), ("m", "s"), ("s", "m"), ("s", "s"), ("s", "w"), ("w", "s"), ("w", "w"))),),
    ("a",), (("by", "a", "a"),), (),
)
APART = (*STONES[:4], ())
UNLIKE = tuple((one, other) for one in "abc" for other in "abc" if one != other)
THREE = (("a", "b", "c"), (("r", UNLIKE),), ("m",), (("r", "m", "m"),), (("a", "b"), ("a", "c")))
FOUR = (("a", "b", "c", "d"), (), ("m",), (), (("a", "b"), ("a", "b", "c"), ("c", "d")))
SMALL = WORLDS + (SHORE, APART, THREE)


def samples(many, most_cells=5, most_ties=12):
    for seed in range(many):
        dice = Dice(seed)
        world = SMALL[seed // 2 % len(SMALL)] if seed % 2 else random_world(dice)
        land = random_land(world, dice, most_cells, most_ties)
        yield dice, world, land, random_ahead(world, land, dice) if dice.below(2) else {}


def tried_by_words(world, land, ahead):
    lots = left_by_words(world, land, ahead)
    if lots is None:
        return None
    return {
        cell: tuple(tile for tile in lots[cell] if left_by_words(world, land, {**ahead, cell: (tile,)}) is not None)
        for cell, mark in land[0]
    }


def untied(world, many):
    return (tuple(("c%02d" % place, world[2][0]) for place in range(many)), ())


class Tries(unittest.TestCase):
    def test_tried(self):
        answers = {"refused": 0, "none": 0, "one": 0, "more": 0}
        for dice, world, land, ahead in samples(250):
            expected = tried_by_words(world, land, ahead)
            found = tried(world, land, ahead)
            self.assertEqual(found, expected)
            must = {}
            if found is None:
                answers["refused"] += 1
            else:
                self.assertEqual(list(found), [cell for cell, mark in land[0]])
                must = {cell: found[cell][0] for cell in found if len(found[cell]) == 1}
                for cell in found:
                    answers[("none", "one", "more")[min(len(found[cell]), 2)]] += 1
            self.assertEqual(must_stand(world, land, ahead), must)
            self.assertEqual(list(must_stand(world, land, ahead)), sorted(must))
            for cell, mark in land[0]:
                for tile in world[0]:
                    answer = found is not None and tile in found[cell]
                    self.assertIs(can_stand(world, land, ahead, cell, tile), answer)
        self.assertTrue(min(answers.values()) > 10, answers)

    def test_a_cell_at_which_nothing_can_stand(self):
        world = (*TURNS[:2], ("m",), (("r", "m", "m"),), ())
        self.assertEqual(tried(world, TRIANGLE, {}), {"x": (), "y": (), "z": ()})
        self.assertEqual(must_stand(world, TRIANGLE, {}), {})
        self.assertIsNone(tried(world, TRIANGLE, {"x": ("a",)}))
        self.assertEqual(must_stand(world, TRIANGLE, {"x": ("a",)}), {})
        self.assertFalse(can_stand(world, TRIANGLE, {"x": ("a",)}, "x", "a"))
        self.assertEqual([tried(LONE, ((), ()), {}), must_stand(LONE, ((), ()), {})], [{}, {}])

    def test_what_they_say_of_layings_in_a_sure_world(self):
        compared = 0
        for seed in range(400):
            dice = Dice(seed)
            world = (SHORE, APART, TURNS)[seed % 3] if seed < 90 else random_world(dice)
            if not is_sure(world):
                continue
            land = random_land(world, dice, 5, 9)
            ahead = random_ahead(world, land, dice)
            all_of_them = layings_by_words(world, land, ahead)
            stands = {cell: tuple(sorted({laid[cell] for laid in all_of_them})) for cell, mark in land[0]}
            self.assertEqual(tried(world, land, ahead), stands if all_of_them else None)
            if all_of_them:
                self.assertEqual(built(world, land, ahead), all_of_them[0])
                compared += 1
            elif land[0]:
                with self.assertRaises(NoTile):
                    built(world, land, ahead)
        self.assertGreater(compared, 60)

    def test_lands_of_sixty_cells(self):
        for seed in range(12):
            dice = Dice(seed)
            world = (SHORE, COAST, great_world(dice))[seed % 3]
            land = greatest_land(world, dice)
            ahead = {cell: dice.one(all_told(world)) for cell, mark in dice.mixed(land[0])[:seed % 4]}
            lots = look(world, land, ahead)
            found = tried(world, land, ahead)
            self.assertIs(lots is None, found is None)
            for cell, mark in dice.mixed(land[0])[:6] if lots else ():
                for tile in world[0]:
                    answer = tile in lots[cell] and look(world, land, {**ahead, cell: (tile,)}) is not None
                    self.assertIs(tile in found[cell], answer)
                    self.assertIs(can_stand(world, land, ahead, cell, tile), answer)


class Built(unittest.TestCase):
    def built_by_words(self, world, land, ahead):
        """What built returns, or the CELL of what it raises."""
        for cell, mark in land[0]:
            found = tried_by_words(world, land, ahead)
            if found is None or found[cell] == ():
                return cell
            ahead = {**ahead, cell: found[cell][:1]}
        return {cell: ahead[cell][0] for cell, mark in land[0]}

    def test_built(self):
        answers = {dict: 0, "least": 0, "other": 0}
        for dice, world, land, ahead in samples(500, 6, 14):
            expected = self.built_by_words(world, land, ahead)
            if type(expected) is dict:
                self.assertEqual(built(world, land, ahead), expected)
                self.assertEqual(list(expected), list(built(world, land, ahead)))
                self.assertTrue(is_laying(world, land, ahead, expected))
                answers[dict] += 1
            else:
                with self.assertRaises(NoTile) as caught:
                    built(world, land, ahead)
                self.assertEqual(caught.exception.cell, expected)
                answers["least" if expected == land[0][0][0] else "other"] += 1
        self.assertTrue(min(answers.values()) > 2, answers)

    def test_the_first_cell_at_which_there_is_none(self):
        cells = tuple(("c%d" % place, "m") for place in range(4))
        ties = tuple(("r", one, other) for one, _ in cells for other, _ in cells if one < other)
        for more, cell in (((), "c1"), ((("a0", "m"),), "c1"), ((("z0", "m"),), "c1")):
            land = (tuple(sorted((*cells, *more))), ties)
            self.assertEqual(self.built_by_words(THREE, land, {}), cell)
            for ahead, first in (({}, cell), ({"c3": ("a",)}, "c0"), ({"c3": ("a",), "c1": ("a",)}, land[0][0][0])):
                with self.assertRaises(NoTile) as caught:
                    built(THREE, land, ahead)
                self.assertEqual(caught.exception.cell, first)
                self.assertEqual(self.built_by_words(THREE, land, ahead), first)

    def test_where_the_look_refuses_at_once(self):
        for ahead in ({"x": ("a",)}, {"z": ("a",)}, {"y": ("b",), "z": ("a",)}):
            with self.assertRaises(NoTile) as caught:
                built(STONES, TRIANGLE, ahead)
            self.assertEqual(caught.exception.cell, "x")
        self.assertEqual(built(LONE, ((), ()), {}), {})
        self.assertEqual(built(STONES, TRIANGLE, {}), {"x": "s", "y": "s", "z": "s"})

    def test_forests_and_great_lands(self):
        for seed in range(16):
            dice = Dice(seed)
            world = (SHORE, COAST, THREE, great_world(dice))[seed % 4]
            forest = random_forest(world, dice, 60)
            self.assertEqual(built(world, forest, {}), least_laying(world, forest, {}))
        land = grid(SHORE, (("a",) * 10,) * 6, "by", "by")
        laid = built(SHORE, land, {"r5c9": ("w",)})
        self.assertTrue(is_laying(SHORE, land, {"r5c9": ("w",)}, laid))
        self.assertEqual(sorted(laid.values()), ["m"] * 57 + ["s"] * 2 + ["w"])


class Led(unittest.TestCase):
    def led_by_words(self, world, land, ahead, picks):
        for index, (cell, tile) in enumerate(picks):
            lots = left_by_words(world, land, ahead)
            if lots is None or tile not in lots[cell]:
                return index
            ahead = {**ahead, cell: (tile,)}
        return ahead

    def test_led(self):
        answers = {dict: 0, int: 0}
        for dice, world, land, ahead in samples(300):
            picks = []
            for _ in range(dice.below(5) if land[0] else 0):
                lots = look(world, land, {**ahead, **{cell: (tile,) for cell, tile in picks}})
                cell = dice.one(land[0])[0]
                picks.append((cell, dice.one(lots[cell] if lots and dice.below(6) else world[0])))
            expected = self.led_by_words(world, land, ahead, picks)
            answers[type(expected)] += 1
            for row in (picks, tuple(picks)):
                if type(expected) is int:
                    with self.assertRaises(NoPick) as caught:
                        led(world, land, ahead, row)
                    self.assertEqual(caught.exception.index, expected)
                    self.assertFalse(are_let(world, land, ahead, tuple(picks)))
                else:
                    told = led(world, land, ahead, row)
                    self.assertEqual(told, expected)
                    self.assertEqual(list(told), sorted(told))
        self.assertTrue(min(answers.values()) > 60, answers)

    def test_the_first_one_that_is_not_let(self):
        for picks, index in (
            ((("x", "s"), ("y", "a"), ("z", "a")), 1),
            ((("x", "a"), ("y", "b")), 1),
            ((("x", "s"), ("x", "s"), ("x", "a")), 2),
            ([("x", "a"), ("x", "a")], 1),
        ):
            with self.assertRaises(NoPick) as caught:
                led(STONES, TRIANGLE, {}, picks)
            self.assertEqual(caught.exception.index, index)
        self.assertEqual(led(STONES, TRIANGLE, {}, [("x", "s"), ("x", "s")]), {"x": ("s",)})
        self.assertEqual(led(STONES, TRIANGLE, {}, (("x", "a"),)), {"x": ("a",)})
        told = {"z": ("a", "b"), "y": ("a", "b")}
        self.assertEqual(list(led(STONES, TRIANGLE, told, []).items()), [("y", ("a", "b")), ("z", ("a", "b"))])

    def test_where_the_look_refuses_at_once(self):
        self.assertEqual(led(STONES, TRIANGLE, {"x": ("a",)}, ()), {"x": ("a",)})
        with self.assertRaises(NoPick) as caught:
            led(STONES, TRIANGLE, {"x": ("a",)}, (("x", "a"),))
        self.assertEqual(caught.exception.index, 0)


class Grief(unittest.TestCase):
    def grief_by_words(self, world, land, ahead, most=2000):
        """How many PICKS the rows have that grief may return; None; or "too many"."""
        if look(world, land, ahead) is None:
            return None
        row = [ahead]
        seen = [ahead]
        for number in itertools.count(1):
            behind = []
            for told in row:
                lots = look(world, land, told)
                for cell, mark in land[0]:
                    for tile in lots[cell] if len(told.get(cell, ())) != 1 else ():
                        behind.append({**told, cell: (tile,)})
            if any(look(world, land, told) is None for told in behind):
                return number
            keys = {tuple(sorted(told.items())) for told in behind} - {tuple(sorted(told.items())) for told in seen}
            row = [dict(key) for key in keys]
            seen += row
            if len(seen) > most:
                return "too many"
            if not row:
                return None

    def check(self, world, land, ahead):
        expected = self.grief_by_words(world, land, ahead)
        if expected == "too many":
            with self.assertRaises(TooMany) as caught:
                grief(world, land, ahead)
            self.assertEqual(caught.exception.most, 2000)
            return expected
        row = grief(world, land, ahead)
        if expected is None:
            self.assertIsNone(row)
        else:
            self.assertEqual(len(row), expected)
            self.assertIs(is_stuck(world, land, ahead, row), True)
        return expected

    def test_as_few_picks_as_any_such_row(self):
        answers = {}
        for dice, world, land, ahead in samples(320, 4, 12):
            expected = self.check(world, land, ahead)
            answers[expected] = answers.get(expected, 0) + 1
        self.assertTrue({None, 1, 2} <= set(answers), answers)

    def test_rows_of_three_and_more(self):
        cells = tuple(("c%d" % place, "m") for place in range(5))
        ties = tuple(("r", one, other) for one, _ in cells for other, _ in cells if one < other)
        for many, expected in ((3, None), (4, 2), (5, 2)):
            land = (cells[:many], tuple(tie for tie in ties if tie[2] < "c%d" % many))
            self.assertEqual(self.check(THREE, land, {}), expected)
        unlike = tuple((one, other) for one in "abcd" for other in "abcd" if one != other)
        world = (("a", "b", "c", "d"), (("r", unlike),), ("m",), (("r", "m", "m"),), ())
        self.assertEqual(self.check(world, (cells, ties), {}), 3)
        self.assertEqual(self.check(world, (cells, ties), {"c0": ("a",)}), 2)

    def test_none(self):
        self.assertIsNone(grief(LONE, ((), ()), {}))
        self.assertIsNone(grief(STONES, TRIANGLE, {"x": ("a",)}))
        self.assertIsNone(grief(STONES, (TRIANGLE[0], TRIANGLE[1][:2]), {}))
        self.assertIsNone(self.check(STONES, TRIANGLE, {"x": ("s",)}))
        self.assertEqual(self.check(STONES, TRIANGLE, {}), 1)

    def test_just_at_two_thousand_and_just_beyond(self):
        for many, lots, total in (
            (6, [("a",)] * 2 + [("c", "d")] * 1 + [None] * 3, 375),
            (9, [("a", "b")] * 2 + [("a", "b", "c")] * 2 + [("a",)] * 5, 144),
            (4, [None] * 4, 625),
            (7, [("a", "b", "c"), ("a", "b", "c"), None, None, None], 2000),
            (5, [None] * 5, 3125),
            (6, [("c", "d")] * 4 + [None] * 2, 2025),
            (7, [("c", "d")] * 6 + [("a", "b", "c")], 2916),
            (6, [("c", "d")] * 6, 729),
            (7, [("c", "d")] * 7, 2187),
        ):
            land = untied(FOUR, len(lots))
            ahead = {cell: lot for (cell, mark), lot in zip(land[0], lots) if lot}
            states = 1
            for lot in lots:
                states *= 1 if lot and len(lot) == 1 else 1 + len(lot or FOUR[0])
            self.assertEqual(states, total)
            self.assertEqual(self.check(FOUR, land, ahead), "too many" if total > 2000 else None)

    def test_worlds_of_one_tile(self):
        world = (("a",), (("r", (("a", "a"),)),), ("m",), (("r", "m", "m"),), ())
        for many, expected in ((0, None), (1, None), (10, None), (11, "too many"), (60, "too many")):
            land = untied(world, many)
            self.assertEqual(self.check(world, land, {}) if many < 12 else "too many", expected)
            if many >= 12:
                with self.assertRaises(TooMany):
                    grief(world, land, {})
        self.assertEqual(self.check(world, ring(world, ("m",) * 12, "r"), {"c0": ("a",), "c1": ("a",)}), None)

    def test_too_many_never_comes_ahead_of_a_row_that_sticks(self):
        far = tuple(("f%02d" % place, "m") for place in range(45))
        cells = tuple(("c%d" % place, "m") for place in range(4))
        ties = tuple(("r", one, other) for one, _ in cells for other, _ in cells if one < other)
        land = (tuple(sorted((*cells, *far))), ties)
        row = grief(THREE, land, {})
        self.assertEqual(len(row), 2)
        self.assertTrue(is_stuck(THREE, land, {}, row))
        rounds = (cells[:3] + far, ties[:2] + ties[3:4])
        with self.assertRaises(TooMany):
            grief(THREE, (tuple(sorted(rounds[0])), tuple(sorted(rounds[1]))), {})

    def test_free_worlds(self):
        for seed in range(200):
            dice = Dice(seed)
            world = random_world(dice)
            if is_free(world):
                land = random_land(world, dice, 4, 9)
                self.assertIn(self.check(world, land, random_ahead(world, land, dice)), (None, "too many"))

    def test_the_greatest_lands(self):
        for seed in range(5):
            dice = Dice(seed)
            world = (STONES, COAST, great_world(dice), SHORE, TURNS)[seed]
            land = greatest_land(world, dice)
            try:
                row = grief(world, land, {})
                self.assertTrue(row is None or is_stuck(world, land, {}, row))
            except TooMany as error:
                self.assertEqual(error.most, 2000)
            small = land_of(world, dice, ["c%d" % place for place in range(6)], 8)
            self.check(world, small, {"c0": world[0][:1]})
