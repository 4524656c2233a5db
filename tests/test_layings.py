"""Point 19: layings, and trees that show that there is none."""

import unittest

from laidanyhow.errors import TooMany
from laidanyhow.lands import grid, part_of, ring
from laidanyhow.layings import all_layings, is_laying, is_no_laying, least_laying, no_laying
from laidanyhow.looks import look, picked
from laidanyhow.strikes import is_refusal, refusal
from tests.by_words import layings_by_words, left_by_words
from tests.samples import COAST, LONE, STONES, TRIANGLE, TURNS, WHEEL, Dice, all_told, land_of, nearly, nearly_part
from tests.samples import odd_values, random_ahead, random_forest, random_land, random_world

PLAIN = (("a", "b"), (("r", (("a", "b"), ("b", "a"))),), ("m",), (("r", "m", "m"),), ())
UNLIKE = tuple((one, other) for one in "abc" for other in "abc" if one != other)
THREE = (("a", "b", "c"), (("r", UNLIKE),), ("m",), (("r", "m", "m"),), (("b", "c"),))
UNEVEN = (
    ("a", "b", "c", "d"),
    (("k", (("a", "b"), ("a", "d"), ("b", "a"), ("b", "c"), ("c", "d"), ("d", "b"), ("d", "c"))), ("r", (
        ("a", "c"), ("a", "d"), ("b", "d"), ("c", "a"), ("c", "b"), ("d", "a"), ("d", "b"), ("d", "c")
    ))),
    ("m",), (("k", "m", "m"), ("r", "m", "m")), (("a", "b", "d"), ("b", "c", "d")),
)
EACH = tuple((one, other) for one in "abcd" for other in "abcd")
FREELY = (("a", "b", "c", "d"), (("r", EACH),), ("m",), (("r", "m", "m"),), ())


def samples(many, most_cells=5, most_ties=9):
    for seed in range(many):
        dice = Dice(seed)
        world = (STONES, COAST, TURNS, PLAIN, THREE)[seed // 2 % 5] if seed % 2 else random_world(dice)
        land = random_land(world, dice, most_cells, most_ties)
        yield dice, world, land, random_ahead(world, land, dice) if dice.below(2) else {}


def is_tree_by_words(world, land, ahead, thing):
    if type(thing) is not tuple or len(thing) not in (2, 3):
        return False
    if len(thing) == 2:
        return thing[0] == "struck" and is_refusal(world, land, ahead, thing[1])
    word, cell, branches = thing
    if word != "tried" or type(branches) is not tuple or cell not in [one for one, mark in land[0]]:
        return False
    if not all(type(branch) is tuple and len(branch) == 2 for branch in branches):
        return False
    if [tile for tile, tree in branches] != list(ahead.get(cell, world[0])):
        return False
    return all(is_tree_by_words(world, land, {**ahead, cell: (tile,)}, tree) for tile, tree in branches)


class Layings(unittest.TestCase):
    def test_against_going_through_all(self):
        none = 0
        for dice, world, land, ahead in samples(250):
            all_of_them = layings_by_words(world, land, ahead)
            none += all_of_them == []
            self.assertEqual(all_layings(world, land, ahead, len(all_of_them)), all_of_them)
            self.assertEqual(all_layings(world, land, ahead, 10 ** 39), all_of_them)
            least = least_laying(world, land, ahead)
            self.assertEqual(least, all_of_them[0] if all_of_them else None)
            if least:
                self.assertEqual(list(least), [cell for cell, mark in land[0]])
            for most in {0, 1, len(all_of_them) - 1, len(all_of_them) // 2} - {-1}:
                if most < len(all_of_them):
                    with self.assertRaises(TooMany) as caught:
                        all_layings(world, land, ahead, most)
                    self.assertEqual(caught.exception.most, most)
        self.assertTrue(30 < none < 220)

    def test_is_laying(self):
        answers = [0, 0]
        for dice, world, land, ahead in samples(200):
            all_of_them = layings_by_words(world, land, ahead)
            for laid in all_of_them[:3]:
                turned = {cell: laid[cell] for cell in reversed(list(laid))}
                self.assertIs(is_laying(world, land, ahead, turned), True)
                self.assertIs(is_laying(world, land, ahead, {**laid, "other": world[0][0]}), False)
                for cell in laid:
                    less = {one: laid[one] for one in laid if one != cell}
                    self.assertIs(is_laying(world, land, ahead, less), False)
                    for tile in world[0]:
                        other = {**laid, cell: tile}
                        self.assertIs(is_laying(world, land, ahead, other), other in all_of_them)
                        answers[other in all_of_them] += 1
        self.assertTrue(min(answers) > 100)

    def test_is_laying_of_any_value(self):
        land = ((("x", "m"), ("y", "n")), (("r", "x", "y"),))
        laid = {"x": "a", "y": "b"}
        for thing in (*odd_values(), *nearly(laid)):
            self.assertIs(is_laying(WHEEL, land, {}, thing), thing in ({"x": "a", "y": "b"}, {"x": "b", "y": "c"}))
        for thing in (*odd_values(), *nearly({})):
            self.assertIs(is_laying(WHEEL, ((), ()), {}, thing), type(thing) is dict and thing == {})

    def test_is_laying_within_what_is_told(self):
        land = ((("x", "m"), ("y", "n")), (("r", "x", "y"),))
        self.assertTrue(is_laying(WHEEL, land, {"x": ("a", "b")}, {"x": "a", "y": "b"}))
        self.assertFalse(is_laying(WHEEL, land, {"x": ("b", "c")}, {"x": "a", "y": "b"}))
        self.assertFalse(is_laying(WHEEL, land, {}, {"x": "b", "y": "a"}))

    def test_without_cells(self):
        self.assertEqual([least_laying(LONE, ((), ()), {}), all_layings(LONE, ((), ()), {}, 1)], [{}, [{}]])
        self.assertIsNone(no_laying(LONE, ((), ()), {}))
        self.assertFalse(is_no_laying(LONE, ((), ()), {}, ("struck", ())))
        with self.assertRaises(TooMany):
            all_layings(LONE, ((), ()), {}, 0)

    def test_layings_are_new(self):
        found = all_layings(FREELY, TRIANGLE, {}, 64)
        self.assertEqual(len({id(laid) for laid in found}), 64)

    def test_few_of_very_many(self):
        land = ((*(("c%d" % place, "m") for place in range(10)),), ())
        with self.assertRaises(TooMany) as caught:
            all_layings(FREELY, land, {}, 100)
        self.assertEqual(caught.exception.most, 100)

    def test_the_greatest_lands(self):
        rows = grid(THREE, (("m",) * 4,) * 3, "r", "r")
        self.assertEqual(len(all_layings(THREE, rows, {}, 10 ** 6)), 1122)
        self.assertEqual("".join(least_laying(THREE, rows, {}).values()), "abab" "baba" "abab")
        self.assertEqual(len(all_layings(THREE, grid(THREE, (("m",) * 12,), "r", None), {}, 10 ** 6)), 3 * 2 ** 11)
        for many in range(3, 13):
            land = ring(THREE, ("m",) * many, "r")
            self.assertEqual(len(all_layings(THREE, land, {}, 10 ** 6)), 2 ** many + 2 * (-1) ** many)
            land = ring(PLAIN, ("m",) * many, "r")
            self.assertEqual(len(all_layings(PLAIN, land, {}, 2)), 0 if many % 2 else 2)
            self.assertIs(least_laying(PLAIN, land, {}) is None, many % 2 == 1)
            self.assertIs(no_laying(PLAIN, land, {}) is None, many % 2 == 0)
        for seed in range(30):
            dice = Dice(seed)
            world = random_world(dice) if seed % 2 else THREE
            land = land_of(world, dice, ["c%d" % place for place in range(12)], 10 + dice.below(30))
            ahead = random_ahead(world, land, dice)
            least = least_laying(world, land, ahead)
            tree = no_laying(world, land, ahead)
            self.assertNotEqual(least is None, tree is None)
            if tree is None:
                self.assertTrue(is_laying(world, land, ahead, least))
            else:
                self.assertTrue(is_no_laying(world, land, ahead, tree))

    def test_the_least_one_where_the_look_leads_astray(self):
        astray = 0
        for seed in range(2000):
            dice = Dice(seed)
            world = (THREE, UNEVEN)[seed % 2]
            land = land_of(world, dice, ["c%d" % place for place in range(6 + dice.below(5))], 12 + dice.below(14))
            lots = all_told(world)
            ahead = {cell: dice.one(lots) for cell, mark in land[0] if dice.below(4) == 0}
            if seed % 3 == 0:
                # A cell that is tied to none, at which the first tile is not told.
                land = ((("b0", "m"), *land[0]), land[1])
                ahead["b0"] = world[0][1:]
            told = ahead
            for cell, mark in land[0]:
                lots = look(world, land, told)
                tiles = lots[cell] if lots else ()
                able = [tile for tile in tiles if look(world, land, picked(told, (cell, tile))) is not None]
                told = picked(told, (cell, able[0])) if able else {}
                if not able:
                    break
            least = least_laying(world, land, ahead)
            if least is None:
                self.assertEqual(all_layings(world, land, ahead, 0), [])
            else:
                self.assertEqual(least, all_layings(world, land, ahead, 10 ** 6)[0])
                astray += told == {}
        self.assertGreater(astray, 10)

    def test_forests_of_sixty_cells(self):
        for seed in range(40):
            dice = Dice(seed)
            world = (STONES, COAST, PLAIN, THREE, random_world(dice))[seed % 5]
            land = random_forest(world, dice, 60)
            ahead = random_ahead(world, land, dice) if seed % 2 else {}
            least = least_laying(world, land, ahead)
            self.assertIs(least is None, look(world, land, ahead) is None)
            self.assertIs(no_laying(world, land, ahead) is None, least is not None)
            told = ahead
            for cell, mark in land[0] if least else ():
                self.assertIn(least[cell], look(world, land, told)[cell])
                for tile in look(world, land, told)[cell]:
                    if tile < least[cell]:
                        self.assertIsNone(look(world, land, picked(told, (cell, tile))))
                told = picked(told, (cell, least[cell]))
            if least:
                self.assertTrue(is_laying(world, land, ahead, least))


class Trees(unittest.TestCase):
    def test_there_is_one_exactly_where_there_is_no_laying(self):
        forms = {"struck": 0, "tried": 0, None: 0}
        for dice, world, land, ahead in samples(300, 5, 12):
            tree = no_laying(world, land, ahead)
            self.assertIs(tree is None, layings_by_words(world, land, ahead) != [])
            forms[tree and tree[0]] += 1
            if tree:
                self.assertEqual(tree[0] == "struck", left_by_words(world, land, ahead) is None)
                self.assertTrue(is_tree_by_words(world, land, ahead, tree))
                self.assertIs(is_no_laying(world, land, ahead, tree), True)
            else:
                self.assertIs(is_no_laying(world, land, ahead, tree), False)
        self.assertTrue(min(forms.values()) > 15, forms)

    def check(self, world, land, ahead, thing):
        self.assertIs(is_no_laying(world, land, ahead, thing), is_tree_by_words(world, land, ahead, thing))

    def test_trees_that_are_spoilt(self):
        land = ring(THREE, ("m",) * 4, "r")
        land = (land[0], tuple(sorted((*land[1], ("r", "c0", "c2"), ("r", "c1", "c3")))))
        tree = no_laying(THREE, land, {})
        self.assertEqual(tree[0], "tried")
        self.assertTrue(is_no_laying(THREE, land, {}, tree))
        for thing in nearly(tree):
            self.check(THREE, land, {}, thing)
        _, cell, branches = tree
        for less in (branches[1:], branches[:-1], (), branches + branches[-1:], branches[::-1], branches[:1] * 3):
            self.assertIs(is_no_laying(THREE, land, {}, ("tried", cell, less)), False)
        tiles = [tile for tile, branch in branches]
        exchanged = tuple(zip(tiles, [branch for tile, branch in branches[1:] + branches[:1]]))
        self.assertIs(is_no_laying(THREE, land, {}, ("tried", cell, exchanged)), False)
        for other in ("c0", "c1", "c2", "c3", "c4", None, []):
            self.check(THREE, land, {}, ("tried", other, branches))
            self.check(THREE, land, {"c0": ("a",)}, ("tried", other, branches))
        self.assertFalse(is_no_laying(THREE, land, {}, branches[0][1]))
        self.assertTrue(is_no_laying(THREE, land, {cell: ("a",)}, branches[0][1]))

    def test_rows_that_are_cut(self):
        row = refusal(STONES, TRIANGLE, {"x": ("a",)})
        branch = ("struck", row)
        self.assertTrue(is_no_laying(STONES, TRIANGLE, {"x": ("a",)}, branch))
        self.assertTrue(is_no_laying(STONES, TRIANGLE, {"x": ("a",)}, ("tried", "x", (("a", branch),))))
        self.assertFalse(is_no_laying(STONES, TRIANGLE, {"x": ("a", "b")}, ("tried", "x", (("a", branch),))))
        for many in range(len(row)):
            cut = ("struck", row[:many])
            self.assertFalse(is_no_laying(STONES, TRIANGLE, {"x": ("a",)}, cut))
            self.assertFalse(is_no_laying(STONES, TRIANGLE, {"x": ("a",)}, ("tried", "x", (("a", cut),))))

    def test_each_tile_that_is_told_has_a_branch(self):
        land = ((*TRIANGLE[0], ("z9", "m")), TRIANGLE[1])
        tree = no_laying(PLAIN, land, {"x": ("a", "b"), "z9": ("a",)})
        self.assertEqual([tile for tile, branch in tree[2]], ["a", "b"])
        struck = tuple((tile, ("struck", refusal(STONES, TRIANGLE, {"x": (tile,)}))) for tile in "ab")
        self.assertTrue(is_no_laying(STONES, TRIANGLE, {"x": ("a", "b")}, ("tried", "x", struck)))
        self.assertFalse(is_no_laying(STONES, TRIANGLE, {}, ("tried", "x", struck)))

    def test_cells_tried_twice(self):
        branch = ("struck", refusal(STONES, TRIANGLE, {"x": ("a",)}))
        again = ("tried", "x", (("a", branch),))
        self.assertTrue(is_no_laying(STONES, TRIANGLE, {"x": ("a",)}, ("tried", "x", (("a", again),))))
        self.assertFalse(is_no_laying(STONES, TRIANGLE, {"x": ("a",)}, ("tried", "x", (("a", again), ("b", again)))))

    def test_any_value(self):
        for thing in odd_values():
            self.check(STONES, TRIANGLE, {"x": ("a",)}, thing)
            self.check(STONES, TRIANGLE, {"x": ("a",)}, ("struck", thing))
            self.check(STONES, TRIANGLE, {"x": ("a",)}, ("tried", thing, ()))
            self.check(STONES, TRIANGLE, {"x": ("a",)}, ("tried", "x", thing))
            self.check(STONES, TRIANGLE, {"x": ("a",)}, ("tried", "x", (thing,)))
            self.check(STONES, TRIANGLE, {"x": ("a",)}, ("tried", "x", (("a", thing),)))
            self.check(STONES, TRIANGLE, {"x": ("a",)}, (thing, "x", ()))
        for thing in nearly_part(("struck", refusal(STONES, TRIANGLE, {"x": ("a",)}))):
            self.check(STONES, TRIANGLE, {"x": ("a",)}, thing)

    def test_pieces_that_have_no_part_in_it(self):
        grids = grid(THREE, (("m",) * 6,) * 4, "r", "r")
        apart = tuple(("k%d" % place, "m") for place in range(4))
        ties = tuple(("r", one, other) for one, _ in apart for other, _ in apart if one < other)
        land = (tuple(sorted((*apart, *grids[0]))), tuple(sorted((*ties, *grids[1]))))
        tree = no_laying(THREE, land, {})
        self.assertTrue(is_no_laying(THREE, land, {}, tree))
        self.assertIsNone(least_laying(THREE, land, {}))
        self.assertIsNotNone(least_laying(THREE, part_of(land, tuple(cell for cell, _ in land[0] if cell != "k1")), {}))
