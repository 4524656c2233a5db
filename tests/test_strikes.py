"""Point 18: strikes."""

import itertools
import unittest

from laidanyhow.errors import Nothing
from laidanyhow.lands import grid
from laidanyhow.looks import first_lots, look
from laidanyhow.strikes import can_be_struck, is_refusal, is_strikes, refusal, short_refusal, strikes_of, struck
from tests.samples import COAST, STONES, TRIANGLE, WHEEL, Dice, first_by_words, greatest_land, look_by_words, nearly
from tests.samples import nearly_part, odd_values, random_ahead, random_land, random_world, strikes_by_words

AHEAD = {"x": ("a",)}
ROW = (
    ("y", "a", ("r", "x", "y")), ("y", "s", ("r", "x", "y")), ("z", "b", ("r", "y", "z")), ("z", "s", ("r", "y", "z")),
    ("x", "a", ("r", "z", "x")),
)


def left_by_words(world, land, ahead, thing):
    """What is left behind a ROW OF STRIKES, None if the value is none."""
    if type(thing) is not tuple:
        return None
    left = first_by_words(world, land, ahead)
    for strike in thing:
        if () in left.values() or type(strike) is not tuple or strike not in strikes_by_words(world, land, left):
            return None
        left[strike[0]] = tuple(tile for tile in left[strike[0]] if tile != strike[1])
    return left


def refused_samples(many, most_cells=6, most_ties=9):
    """Worlds, lands and what is told ahead that the look refuses."""
    found = 0
    for seed in itertools.count():
        dice = Dice(seed)
        world = random_world(dice)
        land = random_land(world, dice, most_cells, most_ties)
        ahead = random_ahead(world, land, dice)
        if look(world, land, ahead) is None:
            yield dice, world, land, ahead
            found += 1
            if found == many:
                return


class OneStrike(unittest.TestCase):
    def test_those_that_can_be_done_and_no_others(self):
        for seed in range(60):
            dice = Dice(seed)
            world = random_world(dice)
            land = random_land(world, dice, 4, 5)
            lots = {cell: tuple(dice.some(world[0])) for cell, mark in dice.mixed(land[0])}
            able = strikes_by_words(world, land, lots)
            for cell, mark in land[0]:
                for tile in (*world[0], "q"):
                    for tie in land[1]:
                        strike = (cell, tile, tie)
                        self.assertIs(can_be_struck(world, land, lots, strike), strike in able)

    def test_any_value(self):
        lots = first_lots(STONES, TRIANGLE, AHEAD)
        able = strikes_by_words(STONES, TRIANGLE, lots)
        self.assertTrue(can_be_struck(STONES, TRIANGLE, lots, ROW[0]))
        for thing in (*odd_values(), *nearly(ROW[0])):
            expected = type(thing) is tuple and thing in able
            self.assertIs(can_be_struck(STONES, TRIANGLE, lots, thing), expected)

    def test_where_a_lot_is_empty(self):
        lots = {"x": (), "y": ("a", "s"), "z": ("b",)}
        for strike, told in (
            (("y", "a", ("r", "x", "y")), True),
            (("y", "s", ("r", "x", "y")), True),
            (("y", "b", ("r", "x", "y")), False),
            (("z", "b", ("r", "z", "x")), True),
            (("x", "a", ("r", "x", "y")), False),
            (("y", "s", ("r", "y", "z")), True),
            (("y", "a", ("r", "y", "z")), False),
            (("y", "a", ("r", "z", "x")), False),
            (("y", "a", ("r", "y", "x")), False),
        ):
            self.assertIs(can_be_struck(STONES, TRIANGLE, lots, strike), told, strike)

    def test_by_which_end(self):
        land = ((("x", "m"), ("y", "n")), (("r", "x", "y"),))
        lots = {"x": ("b",), "y": ("c",)}
        self.assertFalse(can_be_struck(WHEEL, land, lots, ("x", "b", ("r", "x", "y"))))
        self.assertFalse(can_be_struck(WHEEL, land, lots, ("y", "c", ("r", "x", "y"))))
        lots = {"x": ("c",), "y": ("b",)}
        self.assertTrue(can_be_struck(WHEEL, land, lots, ("x", "c", ("r", "x", "y"))))
        self.assertTrue(can_be_struck(WHEEL, land, lots, ("y", "b", ("r", "x", "y"))))


class Rows(unittest.TestCase):
    def test_struck(self):
        left = struck(STONES, TRIANGLE, AHEAD, ROW)
        self.assertEqual(left, {"x": (), "y": ("b",), "z": ("a",)})
        self.assertEqual(list(left), ["x", "y", "z"])
        self.assertEqual(struck(STONES, TRIANGLE, AHEAD, ()), first_lots(STONES, TRIANGLE, AHEAD))
        for many in range(len(ROW) + 1):
            self.assertEqual(
                struck(STONES, TRIANGLE, AHEAD, ROW[:many]), left_by_words(STONES, TRIANGLE, AHEAD, ROW[:many])
            )

    def check(self, world, land, ahead, thing):
        left = left_by_words(world, land, ahead, thing)
        self.assertIs(is_strikes(world, land, ahead, thing), left is not None)
        self.assertIs(is_refusal(world, land, ahead, thing), left is not None and () in left.values())

    def test_right_rows(self):
        for many in range(len(ROW) + 1):
            self.assertIs(is_strikes(STONES, TRIANGLE, AHEAD, ROW[:many]), True)
            self.assertIs(is_refusal(STONES, TRIANGLE, AHEAD, ROW[:many]), many == 5)
        self.assertFalse(is_strikes(STONES, TRIANGLE, {}, ROW))

    def test_each_order_and_part_of_a_row(self):
        for many in range(len(ROW) + 1):
            for row in itertools.permutations(ROW, many):
                self.check(STONES, TRIANGLE, AHEAD, row)

    def test_going_on_behind_an_empty_lot(self):
        more = ("y", "b", ("r", "x", "y"))
        self.assertTrue(can_be_struck(STONES, TRIANGLE, struck(STONES, TRIANGLE, AHEAD, ROW), more))
        self.assertFalse(is_strikes(STONES, TRIANGLE, AHEAD, ROW + (more,)))
        self.assertFalse(is_refusal(STONES, TRIANGLE, AHEAD, ROW + (more,)))

    def test_any_value(self):
        for thing in (*odd_values(), *nearly(ROW)):
            self.check(STONES, TRIANGLE, AHEAD, thing)
        for thing in nearly_part(ROW[4]):
            self.check(STONES, TRIANGLE, AHEAD, ROW[:4] + (thing,))
        for part in odd_values():
            self.check(STONES, TRIANGLE, AHEAD, (part,))
            self.check(STONES, TRIANGLE, AHEAD, ROW[:2] + ((part, "b", ("r", "y", "z")),))
            self.check(STONES, TRIANGLE, AHEAD, ROW[:2] + (("z", part, ("r", "y", "z")),))
            self.check(STONES, TRIANGLE, AHEAD, ROW[:2] + (("z", "b", part),))
            self.check(STONES, TRIANGLE, AHEAD, ROW[:2] + (("z", "b", ("r", part, "z")),))
        self.assertIs(is_strikes(STONES, TRIANGLE, {}, ()), True)
        self.assertIs(is_refusal(STONES, TRIANGLE, {}, ()), False)

    def test_random_rows(self):
        for dice, world, land, ahead in refused_samples(40):
            left, row = look_by_words(world, land, first_by_words(world, land, ahead), dice)
            self.assertTrue(is_refusal(world, land, ahead, row))
            self.assertEqual(struck(world, land, ahead, row), left)
            for place in range(len(row)):
                self.check(world, land, ahead, row[:place] + row[place + 1:])
                self.check(world, land, ahead, row[:place] + row[place:place + 1] + row[place:])
                self.check(world, land, ahead, row[:place] + row[place:][::-1])
            self.check(world, land, ahead, list(row))


class Ends(unittest.TestCase):
    def test_strikes_of_goes_to_the_end(self):
        for seed in range(250):
            dice = Dice(seed)
            world = random_world(dice)
            land = random_land(world, dice)
            ahead = random_ahead(world, land, dice)
            row = strikes_of(world, land, ahead)
            self.assertIs(type(row), tuple)
            left = left_by_words(world, land, ahead, row)
            self.assertIsNotNone(left)
            told = look(world, land, ahead)
            if told is None:
                self.assertIn((), left.values())
                self.assertTrue(is_refusal(world, land, ahead, row))
            else:
                self.assertEqual(left, told)
                self.assertEqual(strikes_by_words(world, land, left), [])

    def test_refusal(self):
        for seed in range(250):
            dice = Dice(seed)
            world = random_world(dice)
            land = random_land(world, dice)
            ahead = random_ahead(world, land, dice)
            told = refusal(world, land, ahead)
            if look(world, land, ahead) is None:
                self.assertTrue(is_refusal(world, land, ahead, told))
            else:
                self.assertIsNone(told)
                with self.assertRaises(Nothing):
                    short_refusal(world, land, ahead)

    def test_nothing_refused(self):
        for land in (((), ()), ((("x", "m"),), ()), TRIANGLE):
            self.assertEqual([strikes_of(STONES, land, {}), refusal(STONES, land, {})], [(), None])
            with self.assertRaises(Nothing):
                short_refusal(STONES, land, {})

    def test_no_part_of_a_short_refusal_is_one(self):
        lengths = set()
        for dice, world, land, ahead in refused_samples(120):
            row = short_refusal(world, land, ahead)
            self.assertTrue(is_refusal(world, land, ahead, row))
            lengths.add(len(row))
            for many in range(min(len(row), 9)):
                for part in itertools.combinations(row, many):
                    self.assertFalse(is_refusal(world, land, ahead, part))
            for part in itertools.combinations(row, len(row) - 1):
                self.assertFalse(is_refusal(world, land, ahead, part))
        self.assertTrue(len(lengths) > 4)

    def test_what_lies_elsewhere_is_left_out(self):
        cells = tuple((name, "m") for name in ("a0", "a1", "a2", "b0", "b1", "c0", "c1"))
        land = (cells, (("r", "a0", "a1"), ("r", "a1", "a2"), ("r", "b0", "b1"), ("r", "c0", "c1")))
        ahead = {"a0": ("a",), "b0": ("a",), "b1": ("a",), "c0": ("s",)}
        row = short_refusal(STONES, land, ahead)
        self.assertEqual(len(row), 1)
        self.assertIn(row[0], (("b0", "a", ("r", "b0", "b1")), ("b1", "a", ("r", "b0", "b1"))))

    def test_the_greatest_size(self):
        land = grid(STONES, (("m",) * 60,), "r", None)
        ahead = {"r0c0": ("a",), "r0c59": ("a",)}
        row = refusal(STONES, land, ahead)
        self.assertTrue(is_refusal(STONES, land, ahead, row))
        short = short_refusal(STONES, land, ahead)
        self.assertTrue(is_refusal(STONES, land, ahead, short))
        for place in range(len(short)):
            self.assertFalse(is_refusal(STONES, land, ahead, short[:place] + short[place + 1:]))
        for seed in range(6):
            dice = Dice(seed)
            land = greatest_land(COAST, dice)
            ahead = {cell: (dice.one(COAST[0]),) for cell, mark in land[0] if dice.below(4) == 0}
            row = strikes_of(COAST, land, ahead)
            self.assertTrue(is_strikes(COAST, land, ahead, row))
            self.assertIs(is_refusal(COAST, land, ahead, row), look(COAST, land, ahead) is None)

    def test_order_of_what_is_told(self):
        for dice, world, land, ahead in refused_samples(40):
            turned = {cell: ahead[cell] for cell in reversed(list(ahead))}
            self.assertEqual(strikes_of(world, land, turned), strikes_of(world, land, ahead))
            self.assertEqual(short_refusal(world, land, turned), short_refusal(world, land, ahead))

    def test_the_order_of_strikes_means_nothing(self):
        for dice, world, land, ahead in refused_samples(60):
            for _ in range(4):
                left, row = look_by_words(world, land, first_by_words(world, land, ahead), dice)
                self.assertIn((), left.values())
                self.assertTrue(is_refusal(world, land, ahead, row))
