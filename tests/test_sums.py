"""Point 20: sums over forests."""

import unittest
from fractions import Fraction

from laidanyhow.errors import NoLaying, NoNumber
from laidanyhow.lands import is_forest
from laidanyhow.layings import is_laying, least_laying
from laidanyhow.looks import look
from laidanyhow.sums import laying_at, layings_many, number_of, share, standing_many
from tests.by_words import layings_by_words
from tests.samples import COAST, LONE, STONES, TURNS, WHEEL, Dice, random_ahead, random_forest, random_world

FREELY = (
    ("a", "b", "c", "d"), (("r", tuple((one, other) for one in "abcd" for other in "abcd")),), ("m",),
    (("r", "m", "m"),), (),
)


def samples(many, cells=6):
    for seed in range(many):
        dice = Dice(seed)
        world = (STONES, WHEEL, COAST, TURNS)[seed // 3 % 4] if seed % 3 == 0 else random_world(dice)
        land = random_forest(world, dice, dice.below(cells + 1))
        yield dice, world, land, random_ahead(world, land, dice) if dice.below(2) else {}


class Sums(unittest.TestCase):
    def test_against_going_through_all(self):
        none = 0
        for dice, world, land, ahead in samples(200):
            self.assertTrue(is_forest(land))
            all_of_them = layings_by_words(world, land, ahead)
            many = len(all_of_them)
            none += many == 0
            self.assertEqual(layings_many(world, land, ahead), many)
            for number in {0, 1, 2, many // 3, many // 2, many - 2, many - 1} & set(range(many)):
                laid = laying_at(world, land, ahead, number)
                self.assertEqual(laid, all_of_them[number])
                self.assertEqual(list(laid), sorted(laid))
                turned = {cell: laid[cell] for cell in reversed(list(laid))}
                self.assertEqual(number_of(world, land, ahead, turned), number)
            for cell, mark in land[0]:
                standing = {tile: sum(laid[cell] == tile for laid in all_of_them) for tile in world[0]}
                self.assertEqual(standing_many(world, land, ahead, cell), standing)
                self.assertEqual(list(standing_many(world, land, ahead, cell)), list(world[0]))
                for tile in world[0]:
                    self.check_share(world, land, ahead, cell, tile, standing[tile], many)
        self.assertTrue(5 < none < 120)

    def check_share(self, world, land, ahead, cell, tile, standing, many):
        if many == 0:
            with self.assertRaises(NoLaying):
                share(world, land, ahead, cell, tile)
        else:
            part = Fraction(standing, many)
            self.assertEqual(share(world, land, ahead, cell, tile), (part.numerator, part.denominator))

    def test_all_numbers_of_some(self):
        for dice, world, land, ahead in samples(60, 4):
            for number, laid in enumerate(layings_by_words(world, land, ahead)):
                self.assertEqual(laying_at(world, land, ahead, number), laid)
                self.assertEqual(number_of(world, land, ahead, laid), number)

    def test_no_such_number(self):
        for dice, world, land, ahead in samples(60):
            many = layings_many(world, land, ahead)
            for number in (-1, -2, -10 ** 39, -many, many, many + 1, 10 ** 39):
                if not 0 <= number < many:
                    with self.assertRaises(NoNumber) as caught:
                        laying_at(world, land, ahead, number)
                    self.assertEqual(caught.exception.many, many)

    def test_without_cells_and_without_ties(self):
        self.assertEqual([layings_many(LONE, ((), ()), {}), laying_at(LONE, ((), ()), {}, 0)], [1, {}])
        self.assertEqual(number_of(LONE, ((), ()), {}, {}), 0)
        with self.assertRaises(NoNumber) as caught:
            laying_at(LONE, ((), ()), {}, 1)
        self.assertEqual(caught.exception.many, 1)
        land = ((("x", "m"), ("y", "m"), ("z", "m")), ())
        ahead = {"y": ("a",)}
        self.assertEqual(layings_many(STONES, land, ahead), 9)
        self.assertEqual(standing_many(STONES, land, ahead, "y"), {"a": 9, "b": 0, "s": 0})
        self.assertEqual(standing_many(STONES, land, ahead, "z"), {"a": 3, "b": 3, "s": 3})
        self.assertEqual([share(STONES, land, ahead, "y", tile) for tile in "abs"], [(1, 1), (0, 1), (0, 1)])
        self.assertEqual(laying_at(STONES, land, ahead, 5), {"x": "b", "y": "a", "z": "s"})

    def test_ties_both_ways_about(self):
        cells = (("x", "m"), ("y", "n"))
        onward = (cells, (("r", "x", "y"),))
        self.assertEqual(laying_at(WHEEL, onward, {}, 2), {"x": "c", "y": "a"})
        back = ((("x", "n"), ("y", "m")), (("r", "y", "x"),))
        self.assertEqual(laying_at(WHEEL, back, {}, 2), {"x": "c", "y": "b"})
        both = ((("x", "m"), ("y", "n"), ("z", "m")), (("r", "x", "y"), ("r", "z", "y")))
        self.assertEqual(laying_at(WHEEL, both, {}, 0), {"x": "a", "y": "b", "z": "a"})
        self.assertEqual(standing_many(WHEEL, both, {"z": ("b", "c")}, "x"), {"a": 0, "b": 1, "c": 1})

    def test_no_layings(self):
        land = ((("x", "m"), ("y", "n")), (("r", "x", "y"),))
        ahead = {"x": ("a",), "y": ("a",)}
        self.assertEqual(layings_many(WHEEL, land, ahead), 0)
        self.assertEqual(standing_many(WHEEL, land, ahead, "x"), {"a": 0, "b": 0, "c": 0})
        with self.assertRaises(NoNumber) as caught:
            laying_at(WHEEL, land, ahead, 0)
        self.assertEqual(caught.exception.many, 0)
        with self.assertRaises(NoLaying):
            share(WHEEL, land, ahead, "y", "b")

    def test_forests_of_sixty_cells(self):
        for seed in range(16):
            dice = Dice(seed)
            world = (STONES, COAST, WHEEL, random_world(dice))[seed % 4]
            land = random_forest(world, dice, 60)
            ahead = random_ahead(world, land, dice) if seed % 8 > 3 else {}
            many = layings_many(world, land, ahead)
            self.assertIs(many == 0, look(world, land, ahead) is None)
            if many:
                self.assertEqual(laying_at(world, land, ahead, 0), least_laying(world, land, ahead))
            for number in {0, many // 3, many - 1} if many else ():
                laid = laying_at(world, land, ahead, number)
                self.assertTrue(is_laying(world, land, ahead, laid))
                self.assertEqual(number_of(world, land, ahead, laid), number)
            for cell, mark in land[0][::20]:
                standing = standing_many(world, land, ahead, cell)
                self.assertEqual(sum(standing.values()), many)
                lot = tuple(tile for tile in world[0] if standing[tile])
                self.assertEqual(lot, look(world, land, ahead)[cell] if many else ())

    def test_great_numbers(self):
        land = (tuple(("c%d" % place, "m") for place in range(10, 70)), tuple(
            ("r", "c%d" % place, "c%d" % (place + 1)) for place in range(10, 69)
        ))
        self.assertEqual(layings_many(FREELY, land, {}), 4 ** 60)
        number = int("0123" * 15, 4)
        self.assertEqual("".join(laying_at(FREELY, land, {}, number).values()), "abcd" * 15)
        self.assertEqual(share(FREELY, land, {}, "c30", "d"), (1, 4))
