"""Points 6 and 26: copies, lands on which the look is wrong, and lands on which one is stuck."""

import unittest

from laidanyhow.arising import arising, grown, nodes
from laidanyhow.errors import Nothing, TooMany
from laidanyhow.forms import is_ahead, is_land
from laidanyhow.free import is_free, is_stuck
from laidanyhow.guides import is_sure
from laidanyhow.lands import is_forest, mark_of, part_of, pieces
from laidanyhow.layings import is_no_laying, least_laying
from laidanyhow.looks import look
from laidanyhow.wronglands import copies, stuck_land, wrong_land
from tests.by_words import holds_by_words, left_by_words, some_laying
from tests.samples import COAST, LONE, STONES, TURNS, WHEEL, WORLDS, Dice, chain_world, great_world, random_world

SHORE = (
    ("m", "s", "w"), (("by", (("m", "m"), ("m", "s"), ("s", "m"), ("s", "s"), ("s", "w"), ("w", "s"), ("w", "w"))),),
    ("a",), (("by", "a", "a"),), (),
)
APART = (*STONES[:4], ())
PAIR = (("p", "q"), (("by", (("p", "q"), ("q", "p"))),), ("a",), (("by", "a", "a"),), ())
UNLIKE = tuple((one, other) for one in "abcd" for other in "abcd" if one != other)
FOUR = (("a", "b", "c", "d"), (("k", UNLIKE),), ("m",), (("k", "m", "m"),), ())
SMALL = WORLDS + (SHORE, APART, PAIR, FOUR)


def samples(many):
    for seed in range(many):
        dice = Dice(seed)
        if seed < len(SMALL):
            yield SMALL[seed]
        else:
            yield great_world(dice, each_told=seed % 14 == 0) if seed % 7 == 0 else random_world(dice)


def with_marks(world, many):
    """The world with so many marks more, which have no pattern ties."""
    return (*world[:2], tuple(sorted((*world[2], *("z%02d" % number for number in range(many))))), *world[3:])


def size_of_copies(world):
    return sum(len(grown(world, node)[0][0]) for node in nodes(world))


class Copies(unittest.TestCase):
    def check(self, world, many):
        land, ahead, table = copies(world, many)
        self.assertTrue(is_land(world, land))
        self.assertTrue(is_ahead(world, land, ahead))
        keys = [(node, number) for node in nodes(world) for number in range(many)]
        self.assertEqual(list(table), keys)
        roots = {table[key]: key[0] for key in keys}
        self.assertEqual(len(roots), len(keys))
        lots = look(world, land, ahead)
        for cell, (mark, lot) in roots.items():
            self.assertEqual([mark_of(land, cell), lots[cell]], [mark, lot])
        expected = {
            (kind, one, other)
            for kind, begin, end in world[3] for one in roots for other in roots
            if one != other and roots[one][0] == begin and roots[other][0] == end
            and holds_by_words(world, kind, roots[one][1], roots[other][1])
        }
        self.assertEqual({tie for tie in land[1] if tie[1] in roots and tie[2] in roots}, expected)
        trees = (land[0], tuple(tie for tie in land[1] if tie not in expected))
        self.assertTrue(is_forest(trees))
        sizes = {node: len(grown(world, node)[0][0]) for node in nodes(world)}
        found = pieces(trees)
        self.assertEqual(len(found), len(keys))
        for piece in found:
            inner = [cell for cell in piece if cell in roots]
            self.assertEqual(len(inner), 1)
            self.assertEqual(len(piece), sizes[roots[inner[0]]])
            tree = part_of(trees, piece)
            told = {cell: ahead[cell] for cell in piece if cell in ahead}
            self.assertEqual(left_by_words(world, tree, told)[inner[0]], roots[inner[0]][1])

    def test_copies(self):
        for world in samples(40):
            size = size_of_copies(world)
            for many in (1, 2, 3):
                if many * size <= (300 if many == 1 else 60):
                    self.check(world, many)

    def test_the_greatest_copies(self):
        world = great_world(Dice(4), each_told=True)
        self.assertEqual({len(lots) for lots in arising(world).values()}, {15})
        land, ahead, table = copies(world, 5)
        self.assertEqual([len(land[0]), len(table), len(ahead)], [300, 300, 280])
        self.assertIsNotNone(look(world, land, ahead))
        with self.assertRaises(TooMany):
            copies(world, 6)

    def test_too_many(self):
        answers = [0, 0]
        for world in samples(40):
            size = size_of_copies(world)
            for many in (1, 2, 5, 300 // size, 300 // size + 1, 301, 10 ** 39):
                if many > 0 and many * size > 300:
                    with self.assertRaises(TooMany) as caught:
                        copies(world, many)
                    self.assertEqual(caught.exception.most, 300)
                elif many > 0:
                    self.assertEqual(len(copies(world, many)[0][0]), many * size)
                answers[many * size > 300] += 1
        self.assertTrue(min(answers) > 50, answers)

    def test_ties_of_one_node(self):
        land, ahead, table = copies(PAIR, 2)
        pair = [table[("a", ("p", "q")), number] for number in (0, 1)]
        ones = [table[("a", ("p",)), number] for number in (0, 1)]
        self.assertIn(("by", pair[0], pair[1]), land[1])
        self.assertIn(("by", pair[1], pair[0]), land[1])
        self.assertNotIn(("by", ones[0], ones[1]), land[1])
        others = [table[("a", ("q",)), number] for number in (0, 1)]
        self.assertTrue(all(("by", one, other) in land[1] for one in ones for other in others))


class WrongLands(unittest.TestCase):
    def check(self, world):
        land, ahead, tree = wrong_land(world)
        self.assertTrue(is_land(world, land))
        self.assertTrue(is_ahead(world, land, ahead))
        self.assertIsNotNone(look(world, land, ahead))
        self.assertIs(is_no_laying(world, land, ahead, tree), True)
        self.assertIsNone(some_laying(world, land, ahead))
        self.assertIsNone(least_laying(world, land, ahead))
        cells = [cell for cell, mark in land[0]]
        for cell in cells:
            rest = part_of(land, tuple(one for one in cells if one != cell))
            told = {one: lot for one, lot in ahead.items() if one != cell}
            self.assertIsNotNone(some_laying(world, rest, told))
            self.assertIsNotNone(least_laying(world, rest, told))
        return len(cells)

    def test_wrong_lands(self):
        sizes = set()
        for world in samples(110):
            if is_sure(world):
                with self.assertRaises(Nothing):
                    wrong_land(world)
            else:
                sizes.add(self.check(world))
        self.assertTrue({2, 3, 4, 5} < sizes, sizes)

    def test_small_ones(self):
        land, ahead, tree = wrong_land(PAIR)
        self.assertEqual([len(land[0]), ahead, tree[0]], [3, {}, "tried"])
        self.assertLess(self.check(FOUR), 10)
        for world in (SHORE, APART, TURNS, LONE):
            with self.assertRaises(Nothing):
                wrong_land(world)

    def test_too_many(self):
        for many, raises in ((0, False), (32, False), (33, True), (60, True)):
            world = with_marks(PAIR, many)
            self.assertEqual(size_of_copies(world), 3 * (many + 1))
            if raises:
                with self.assertRaises(TooMany) as caught:
                    wrong_land(world)
                self.assertEqual(caught.exception.most, 300)
                with self.assertRaises(TooMany):
                    stuck_land(world)
            else:
                self.assertEqual(self.check(world), 3)
        for many in (74, 75):
            with self.assertRaises(Nothing):
                wrong_land(with_marks(APART, many))

    def test_of_the_greatest_size(self):
        for seed in range(20, 40):
            world = great_world(Dice(seed), each_told=seed % 2 == 0)
            if not is_sure(world):
                self.check(world)


class StuckLands(unittest.TestCase):
    def check(self, world):
        land, ahead, picks = stuck_land(world)
        self.assertTrue(is_land(world, land))
        self.assertTrue(is_ahead(world, land, ahead))
        self.assertLessEqual(len(land[0]), 300)
        self.assertIs(is_stuck(world, land, ahead, picks), True)
        told = dict(ahead)
        for index, (cell, tile) in enumerate(picks):
            self.assertIn(tile, look(world, land, told)[cell])
            told[cell] = (tile,)
            self.assertIs(look(world, land, told) is None, index == len(picks) - 1)
        if is_sure(world):
            self.assertEqual(len(picks), 1)

    def test_stuck_lands(self):
        answers = {"free": 0, "sure": 0, "not sure": 0}
        for world in samples(160):
            if is_free(world):
                with self.assertRaises(Nothing):
                    stuck_land(world)
                answers["free"] += 1
            else:
                self.check(world)
                answers["sure" if is_sure(world) else "not sure"] += 1
        self.assertTrue(min(answers.values()) > 7, answers)

    def test_too_many_in_a_sure_world(self):
        for many, raises in ((0, False), (35, False), (36, False), (37, True), (60, True)):
            world = with_marks(APART, many)
            self.assertEqual(size_of_copies(world), 4 * (many + 1))
            if raises:
                with self.assertRaises(TooMany) as caught:
                    stuck_land(world)
                self.assertEqual(caught.exception.most, 300)
            else:
                self.check(world)

    def test_one_cell_more_than_two_copies(self):
        couples = (("a", "b"), ("b", "a"), ("s", "s"), ("t", "t"))
        world = (("a", "b", "s", "t"), (("k", couples),), ("m",), (("k", "m", "m"),), ())
        self.assertTrue(is_sure(world))
        self.assertEqual(size_of_copies(with_marks(world, 29)), 150)
        self.check(with_marks(world, 28))
        self.assertEqual(len(copies(with_marks(world, 29), 2)[0][0]), 300)
        with self.assertRaises(TooMany):
            stuck_land(with_marks(world, 29))

    def test_too_many_within_the_bounds(self):
        for seed, sure, size in ((1117, False, 348), (6528, True, 154)):
            world = great_world(Dice(seed))
            self.assertEqual([is_sure(world), is_free(world), size_of_copies(world)], [sure, False, size])
            with self.assertRaises(TooMany) as caught:
                stuck_land(world)
            self.assertEqual(caught.exception.most, 300)
            with self.assertRaises(Nothing if sure else TooMany):
                wrong_land(world)

    def test_nothing_comes_first(self):
        for world in (SHORE, TURNS, LONE, with_marks(SHORE, 90)):
            with self.assertRaises(Nothing):
                stuck_land(world)
        self.assertFalse(is_sure(COAST))
        self.check(COAST)
        self.assertFalse(is_sure(STONES))
        self.check(STONES)

    def test_a_long_chain(self):
        world = chain_world(25)
        self.assertGreater(size_of_copies(world), 300)
        self.assertFalse(is_free(world))
        with self.assertRaises(TooMany):
            stuck_land(world)
        self.assertTrue(is_free((*WHEEL[:3], (), WHEEL[4])))
