"""Point 17: the look."""

import itertools
import unittest

from laidanyhow.lands import grid
from laidanyhow.looks import are_held, are_let, first_lots, look, look_on, open_cells, picked
from tests.samples import COAST, LONE, STONES, TRIANGLE, TURNS, WHEEL, Dice, first_by_words, greatest_land
from tests.samples import look_by_words, random_ahead, random_land, random_world, strikes_by_words


def left_or_none(lots):
    return None if () in lots.values() else lots


def random_lots(world, land, dice):
    """Any lots of the land, whether told or not, in any order of the cells."""
    return {cell: tuple(dice.some(world[0])) or world[0][-1:] for cell, mark in dice.mixed(land[0])}


class Looks(unittest.TestCase):
    def samples(self, many):
        for seed in range(many):
            dice = Dice(seed)
            world = random_world(dice)
            land = random_land(world, dice)
            yield dice, world, land, random_ahead(world, land, dice)

    def test_first_lots(self):
        lots = first_lots(STONES, TRIANGLE, {"z": ("s",), "x": ("a", "b")})
        self.assertEqual(lots, {"x": ("a", "b"), "y": ("a", "b", "s"), "z": ("s",)})
        self.assertEqual(list(lots), ["x", "y", "z"])
        self.assertEqual(first_lots(STONES, ((), ()), {}), {})

    def test_look_is_that_of_any_order_of_strikes(self):
        refused = 0
        for dice, world, land, ahead in self.samples(300):
            told = look(world, land, ahead)
            for _ in range(4):
                left, row = look_by_words(world, land, first_by_words(world, land, ahead), dice)
                self.assertEqual(told, left_or_none(left))
            if told is None:
                refused += 1
            else:
                self.assertEqual(list(told), [cell for cell, mark in land[0]])
                self.assertEqual(strikes_by_words(world, land, told), [])
                self.assertTrue(are_held(world, land, told))
        self.assertTrue(20 < refused < 280)

    def test_look_on_any_lots(self):
        for dice, world, land, ahead in self.samples(300):
            lots = random_lots(world, land, dice)
            told = look_on(world, land, lots)
            for _ in range(4):
                left, row = look_by_words(world, land, lots, dice)
                self.assertEqual(told, left_or_none(left))
            if told is not None:
                self.assertEqual(list(told), sorted(lots))
            self.assertEqual(look_on(world, land, first_lots(world, land, ahead)), look(world, land, ahead))

    def test_all_ahead_of_a_small_land(self):
        lots = [("a",), ("b",), ("s",), ("a", "b"), None]
        for choice in itertools.product(lots, repeat=3):
            ahead = {cell: lot for cell, lot in zip("zyx", choice) if lot}
            expected, _ = look_by_words(STONES, TRIANGLE, first_by_words(STONES, TRIANGLE, ahead), Dice(1))
            self.assertEqual(look(STONES, TRIANGLE, ahead), left_or_none(expected))

    def test_nothing_told_strikes_nothing(self):
        for dice, world, land, ahead in self.samples(100):
            self.assertEqual(look(world, land, {}), {cell: world[0] for cell, mark in land[0]})

    def test_lands_without_cells_or_ties(self):
        self.assertEqual([look(LONE, ((), ()), {}), look_on(LONE, ((), ()), {})], [{}, {}])
        land = ((("x", "m"), ("y", "m")), ())
        self.assertEqual(look(STONES, land, {"y": ("a",)}), {"x": ("a", "b", "s"), "y": ("a",)})
        self.assertEqual(look_on(STONES, land, {"y": ("a", "s"), "x": ("b",)}), {"x": ("b",), "y": ("a", "s")})

    def test_ties_point_one_way(self):
        land = ((("x", "m"), ("y", "n")), (("r", "x", "y"),))
        self.assertEqual(look(WHEEL, land, {"x": ("a",)}), {"x": ("a",), "y": ("b",)})
        self.assertEqual(look(WHEEL, land, {"y": ("a",)}), {"x": ("c",), "y": ("a",)})
        self.assertEqual(look(WHEEL, land, {"x": ("a", "b"), "y": ("b", "c")}), {"x": ("a", "b"), "y": ("b", "c")})
        self.assertIsNone(look(WHEEL, land, {"x": ("a",), "y": ("a",)}))

    def test_several_ties_between_two_cells(self):
        land = ((("x", "any"), ("y", "any")), (("by", "x", "y"), ("near", "x", "y"), ("near", "y", "x")))
        self.assertEqual(look(COAST, land, {"x": ("meadow",)}), None)
        self.assertEqual(look(COAST, land, {"x": ("water",)}), {"x": ("water",), "y": ("sand",)})

    def test_a_long_way(self):
        land = grid(STONES, (("m",) * 60,), "r", None)
        told = look(STONES, land, {"r0c0": ("a",)})
        self.assertEqual([told[f"r0c{place}"] for place in range(60)], [("a",), ("b",)] * 30)
        self.assertIsNone(look(STONES, land, {"r0c0": ("a",), "r0c59": ("a",)}))
        self.assertIsNone(look(STONES, land, {"r0c59": ("s",), "r0c0": ("a", "b")}))

    def test_the_greatest_size(self):
        for seed in range(12):
            dice = Dice(seed)
            world = (STONES, COAST, TURNS, random_world(dice))[seed % 4]
            land = greatest_land(world, dice)
            for many in (0, 1, 3, 60):
                cells = dice.mixed([cell for cell, mark in land[0]])[:many]
                ahead = {cell: dice.one([world[0], world[0][:1], world[0][-1:]]) for cell in cells}
                left, row = look_by_words(world, land, first_by_words(world, land, ahead), dice)
                self.assertEqual(look(world, land, ahead), left_or_none(left))

    def test_order_of_what_is_told(self):
        for dice, world, land, ahead in self.samples(60):
            turned = {cell: ahead[cell] for cell in reversed(list(ahead))}
            self.assertEqual(look(world, land, turned), look(world, land, ahead))


class Picks(unittest.TestCase):
    def test_picked(self):
        ahead = {"z": ("a", "b"), "x": ("s",)}
        behind = picked(ahead, ("y", "b"))
        self.assertEqual(behind, {"x": ("s",), "y": ("b",), "z": ("a", "b")})
        self.assertEqual(list(behind), ["x", "y", "z"])
        self.assertEqual(picked(ahead, ("z", "s")), {"x": ("s",), "z": ("s",)})
        self.assertEqual(picked({}, ("x", "a")), {"x": ("a",)})
        self.assertEqual(ahead, {"z": ("a", "b"), "x": ("s",)})

    def let_by_words(self, world, land, ahead, picks):
        ahead = dict(ahead)
        for cell, tile in picks:
            left, _ = look_by_words(world, land, first_by_words(world, land, ahead), Dice(0))
            if () in left.values() or tile not in left[cell]:
                return False
            ahead[cell] = (tile,)
        return True

    def test_are_let(self):
        answers = [0, 0]
        for seed in range(250):
            dice = Dice(seed)
            world = random_world(dice)
            land = random_land(world, dice)
            ahead = random_ahead(world, land, dice) if dice.below(2) else {}
            picks = tuple(
                (dice.one(land[0])[0], dice.one(world[0])) for _ in range(dice.below(5) if land[0] else 0)
            )
            told = are_let(world, land, ahead, picks)
            self.assertIs(told, self.let_by_words(world, land, ahead, picks))
            answers[told] += 1
        self.assertTrue(min(answers) > 30)

    def test_rows_of_picks(self):
        for picks, told in (
            ((), True),
            ((("x", "s"), ("y", "s"), ("z", "s")), True),
            ((("x", "s"), ("x", "s")), True),
            ((("x", "s"), ("x", "a")), False),
            ((("x", "s"), ("y", "a")), False),
            ((("x", "a"),), True),
            ((("x", "a"), ("x", "a")), False),
            ((("x", "a"), ("y", "b")), False),
        ):
            self.assertIs(are_let(STONES, TRIANGLE, {}, picks), told, picks)

    def test_no_pick_is_let_even_where_the_look_refuses(self):
        ahead = {"x": ("a",)}
        self.assertIsNone(look(STONES, TRIANGLE, ahead))
        self.assertIs(are_let(STONES, TRIANGLE, ahead, ()), True)
        for tile in "abs":
            self.assertIs(are_let(STONES, TRIANGLE, ahead, (("x", tile),)), False)

    def test_a_pick_within_what_is_told(self):
        self.assertTrue(are_let(STONES, TRIANGLE, {"x": ("a", "b")}, (("x", "b"),)))
        self.assertTrue(are_let(STONES, TRIANGLE, {"x": ("a", "b")}, (("y", "b"),)))
        self.assertFalse(are_let(STONES, TRIANGLE, {"x": ("a", "b")}, (("y", "s"),)))
        self.assertFalse(are_let(STONES, TRIANGLE, {"x": ("a", "b")}, (("x", "s"),)))

    def test_the_greatest_size(self):
        names = [f"r{i}c{j}" for i in range(6) for j in range(10)]
        land = grid(STONES, (("m",) * 10,) * 6, "r", "r")
        picks = tuple((name, "ab"[(int(name[1]) + int(name[3])) % 2]) for name in names)
        self.assertTrue(are_let(STONES, land, {}, picks))
        self.assertFalse(are_let(STONES, land, {}, picks + (("r5c9", "s"),)))


class Lots(unittest.TestCase):
    def test_open_cells(self):
        lots = {"z": ("a", "b"), "y": ("a",), "c10": ("a", "s"), "c9": ("a", "b", "s")}
        self.assertEqual(open_cells(lots), ("c10", "c9", "z"))
        self.assertEqual([open_cells({}), open_cells({"x": ("a",)})], [(), ()])

    def test_are_held(self):
        answers = [0, 0]
        for seed in range(250):
            dice = Dice(seed)
            world = random_world(dice)
            land = random_land(world, dice, 3, 3)
            lots = random_lots(world, land, dice)
            told = are_held(world, land, lots)
            self.assertIs(told, strikes_by_words(world, land, lots) == [])
            answers[told] += 1
        self.assertTrue(min(answers) > 30)

    def test_held_on_both_sides(self):
        land = ((("x", "any"), ("y", "any")), (("by", "x", "y"),))
        self.assertFalse(are_held(COAST, land, {"x": ("meadow",), "y": ("meadow", "water")}))
        self.assertFalse(are_held(COAST, land, {"x": ("meadow", "water"), "y": ("meadow",)}))
        self.assertTrue(are_held(COAST, land, {"x": ("meadow", "sand"), "y": ("meadow",)}))
