"""Point 22: rounds, how far what is told reaches, and trees that reach far."""

import unittest

from laidanyhow.arising import arising
from laidanyhow.errors import TooMany
from laidanyhow.forms import is_ahead, is_land
from laidanyhow.lands import is_forest, pieces, steps_from
from laidanyhow.looks import look
from laidanyhow.rounds import far_tree, forgets, round_lots
from tests.by_words import left_by_words, round_by_words, trees_by_words
from tests.samples import COAST, LONE, TURNS, WHEEL, WORLDS, Dice, all_told, chain_world, great_world, random_ahead
from tests.samples import random_forest, random_land, random_world

SHORE = (
    ("m", "s", "w"), (("by", (("m", "m"), ("m", "s"), ("s", "m"), ("s", "s"), ("s", "w"), ("w", "s"), ("w", "w"))),),
    ("a",), (("by", "a", "a"),), (),
)
ISLE = (*SHORE[:2], ("a", "b"), (("by", "a", "a"),), ())
GREAT = 1234567890123456789012345678901234567890


def samples(many):
    for seed in range(many):
        dice = Dice(seed)
        yield WORLDS[seed] if seed < len(WORLDS) else great_world(dice) if seed % 5 == 0 else random_world(dice)


class Rounds(unittest.TestCase):
    def test_round_lots(self):
        for world in samples(60):
            told = all_told(world)
            for number in (0, 1, 2, 3, 5):
                expected = round_by_words(world, told, number)
                self.assertEqual(round_lots(world, number), expected)
                self.assertEqual(list(round_lots(world, number)), list(world[2]))
            self.assertEqual(round_lots(world, 0), arising(world))

    def test_beyond_where_they_stand_still(self):
        for world in samples(30):
            at_last = round_by_words(world, all_told(world), 70)
            for number in (61, 300, GREAT):
                self.assertEqual(round_lots(world, number), at_last)

    def test_marks_without_pattern_ties(self):
        self.assertEqual(round_lots(ISLE, 0)["b"], (("m",), ("m", "s", "w"), ("s",), ("w",)))
        for number in (1, 2, GREAT):
            self.assertEqual(round_lots(ISLE, number)["b"], ())
        self.assertEqual(round_lots(ISLE, 2)["a"], (("m", "s", "w"),))
        self.assertEqual([round_lots(LONE, 0), round_lots(LONE, 1)], [{"m": (("a",),)}, {"m": ()}])

    def test_forgets(self):
        answers = {}
        for world in samples(100):
            told = all_told(world)
            whole = [
                all(lot == world[0] for lots in round_by_words(world, told, number).values() for lot in lots)
                for number in (1, 2, 3, 4, 5, 6, 7, 40)
            ]
            least = whole.index(True) + 1 if True in whole else None
            self.assertNotEqual(least, 8)
            self.assertEqual(forgets(world), least)
            answers[least] = answers.get(least, 0) + 1
        self.assertTrue({None, 1, 2, 4} <= set(answers), answers)

    def test_what_forgets_says_of_lands(self):
        reached = 0
        for seed in range(300):
            dice = Dice(seed)
            world = (SHORE, ISLE, WHEEL)[seed % 3] if seed < 60 else random_world(dice)
            least = forgets(world)
            if least is None:
                continue
            land = random_land(world, dice, 8, 9) if seed % 2 else random_forest(world, dice, 9)
            ahead = {cell: lot for cell, lot in random_ahead(world, land, dice).items() if dice.below(3) == 0}
            lots = look(world, land, ahead)
            if lots is not None:
                steps = steps_from(land, tuple(sorted(ahead)))
                for cell, lot in lots.items():
                    if steps.get(cell, least) >= least:
                        self.assertEqual(lot, world[0])
                        reached += cell in steps
        self.assertGreater(reached, 60)

    def test_small_ones(self):
        self.assertEqual([forgets(SHORE), forgets(ISLE), forgets(LONE), forgets(TURNS)], [2, 2, 1, None])
        self.assertEqual(forgets((*COAST[:3], (), COAST[4])), 1)


class FarTrees(unittest.TestCase):
    def check(self, world, number, result):
        """Whether a result is what far_tree may return but for how many CELLS it has; return these."""
        land, ahead, cell = result
        self.assertTrue(is_land(world, land))
        self.assertTrue(is_ahead(world, land, ahead))
        self.assertEqual(len(pieces(land)), 1)
        self.assertTrue(is_forest(land))
        steps = steps_from(land, (cell,))
        self.assertTrue(all(steps[one] >= number for one in ahead))
        lots = left_by_words(world, land, ahead) if len(land[0]) < 30 else look(world, land, ahead)
        self.assertNotEqual(lots[cell], world[0])
        return len(land[0])

    def test_none_exactly_where_the_world_forgets(self):
        for world in samples(80):
            least = forgets(world)
            for number in (1, 2, 3, 4, 6):
                result = far_tree(world, number)
                self.assertIs(result is None, least is not None and number >= least)
                if result is not None:
                    self.check(world, number, result)
            if least is not None:
                self.assertIsNone(far_tree(world, GREAT))

    def test_as_few_cells_as_any_such_tree(self):
        sizes = set()
        for world in samples(40):
            trees = trees_by_words(world, all_told(world), 7, 3)
            for number in (1, 2, 3):
                result = far_tree(world, number)
                many = self.check(world, number, result) if result else 0
                least = [
                    size for size in range(1, 8)
                    if any(lot != world[0] for mark in world[2] for lot in trees[number, mark, size])
                ]
                self.assertEqual([many] if 0 < many < 8 else [], least[:1])
                sizes.add(many)
        self.assertTrue({0, 2, 3, 4, 5} <= sizes, sizes)

    def test_too_many(self):
        for number in (1, 2, 150, 298, 299):
            self.assertEqual(self.check(TURNS, number, far_tree(TURNS, number)), number + 1)
        for number in (300, 301, 1000, GREAT):
            with self.assertRaises(TooMany) as caught:
                far_tree(TURNS, number)
            self.assertEqual(caught.exception.most, 300)

    def test_trees_with_branches(self):
        world = (
            ("a", "b", "c"), (("k", (("a", "a"), ("a", "b"), ("b", "b"), ("b", "c"), ("c", "a"), ("c", "c"))),), ("m",),
            (("k", "m", "m"),), (),
        )
        trees = trees_by_words(world, all_told(world), 8, 3)
        for number in (1, 2, 3):
            least = min(many for many in range(1, 9) if trees[number, "m", many] - {world[0]})
            self.assertEqual(least, 2 ** number)
        for number in range(1, 9):
            self.assertEqual(self.check(world, number, far_tree(world, number)), 2 ** number)
        self.assertEqual([number for number in range(1, 20) if self.raises_too_many(world, number)], [*range(9, 20)])

    def raises_too_many(self, world, number):
        try:
            self.check(world, number, far_tree(world, number))
        except TooMany:
            return True
        return False

    def test_of_the_greatest_size(self):
        for seed in range(6):
            world = great_world(Dice(seed))
            for number in (1, 7, 20, 299, GREAT):
                self.assertIs(self.is_none_of(world, number), forgets(world) is not None and number >= forgets(world))

    def is_none_of(self, world, number):
        try:
            return far_tree(world, number) is None
        except TooMany:
            return False

    def test_a_long_chain(self):
        world = chain_world(40)
        self.assertIsNone(forgets(world))
        self.assertEqual(self.check(world, 39, far_tree(world, 39)), 40)
