"""Points 5 and 25: free worlds, guides beside a node and a tile, rows of picks that are stuck."""

import itertools
import unittest

from laidanyhow.arising import nodes
from laidanyhow.free import beside_look, bound_pick, guide_beside, is_beside, is_free, is_stuck
from laidanyhow.guides import guide, is_guide, is_sure
from laidanyhow.lands import ring
from laidanyhow.looks import look
from laidanyhow.wronglands import stuck_land
from tests.by_words import beside_by_words, guides_by_words, left_by_words, nodes_by_words, web_look_by_words
from tests.by_words import web_ties_by_words
from tests.samples import COAST, LONE, STONES, TRIANGLE, TURNS, WHEEL, WORLDS, Dice, all_told, great_world
from tests.samples import greatest_land, nearly, odd_values, random_ahead, random_land, random_world

SHORE = (
    ("m", "s", "w"), (("by", (("m", "m"), ("m", "s"), ("s", "m"), ("s", "s"), ("s", "w"), ("w", "s"), ("w", "w"))),),
    ("a",), (("by", "a", "a"),), (),
)
APART = (*STONES[:4], ())
PAIR = (("p", "q"), (("by", (("p", "q"), ("q", "p"))),), ("a",), (("by", "a", "a"),), ())
TWO = (*SHORE[:2], ("a", "b"), (("by", "a", "a"), ("by", "b", "a")), (("m", "s"), ("s", "w")))
SMALL = WORLDS + (SHORE, APART, PAIR, TWO)


def samples(many):
    for seed in range(many):
        dice = Dice(seed)
        yield dice, SMALL[seed] if seed < len(SMALL) else random_world(dice)


def free_worlds(many):
    found = [(Dice(seed), world) for seed, world in enumerate((SHORE, TURNS, TWO, LONE, WHEEL))]
    for seed in itertools.count():
        dice = Dice(seed)
        world = great_world(dice) if seed % 3 == 0 else random_world(dice)
        if is_free(world):
            found.append((dice, world))
        if len(found) >= many:
            return found


def is_beside_by_words(world, told, node, tile, thing):
    """Whether a GUIDE is BESIDE (node, tile), by each PATTERN TIE and each NODE."""
    tables = dict(world[1])
    for (kind, _, _), one, other in web_ties_by_words(world, told):
        if one == node and (tile, thing[other]) not in tables[kind]:
            return False
        if other == node and (thing[one], tile) not in tables[kind]:
            return False
    return True


def web_beside(world, told, node, tile):
    """The WEB with one CELL more, called "more", that bears the TILE: its TIES and LOTS."""
    ties = web_ties_by_words(world, told)
    ties += [(tie, "more", other) for tie, one, other in ties if one == node]
    ties += [(tie, one, "more") for tie, one, other in ties if other == node and one != "more"]
    return ties, {**{one: one[1] for one in nodes_by_words(world, told)}, "more": (tile,)}


class Beside(unittest.TestCase):
    def test_beside_look(self):
        answers = [0, 0, 0]
        for dice, world in samples(90):
            told = all_told(world)
            pairs = [(node, tile) for node in nodes(world) for tile in node[1]]
            for node, tile in dice.mixed(pairs)[:8]:
                left = web_look_by_words(world, *web_beside(world, told, node, tile))
                if left:
                    del left["more"]
                self.assertEqual(beside_look(world, node, tile), left)
                if left:
                    self.assertEqual(list(beside_look(world, node, tile)), sorted(left))
                answers[2 if left is None else left == {one: one[1] for one in left}] += 1
        self.assertTrue(min(answers) > 50, answers)

    def test_guide_beside_exactly_where_tries_find_one(self):
        answers = [0, 0]
        for dice, world in samples(150):
            told = all_told(world)
            if len(nodes(world)) > 20:
                continue
            pairs = [(node, tile) for node in nodes(world) for tile in node[1]]
            for node, tile in dice.mixed(pairs)[:6]:
                able = beside_by_words(world, told, node, tile)
                there_is_one = any(True for _ in guides_by_words(world, told, able))
                answers[there_is_one] += 1
                tiles = guide_beside(world, node, tile)
                self.assertIs(tiles is not None, there_is_one)
                if is_sure(world):
                    self.assertIs(beside_look(world, node, tile) is not None, there_is_one)
                if tiles:
                    self.assertTrue(is_guide(world, tiles))
                    self.assertTrue(is_beside_by_words(world, told, node, tile, tiles))
                    self.assertIs(is_beside(world, node, tile, tiles), True)
                    self.assertEqual(list(tiles), sorted(tiles))
        self.assertTrue(min(answers) > 60, answers)

    def test_is_beside(self):
        answers = [0, 0]
        for dice, world in samples(150):
            told = all_told(world)
            found = list(itertools.islice(guides_by_words(world, told), 6)) if is_sure(world) else []
            pairs = [(node, tile) for node in nodes(world) for tile in node[1]]
            for tiles in found:
                for node, tile in dice.mixed(pairs)[:6]:
                    answer = is_beside_by_words(world, told, node, tile, tiles)
                    self.assertIs(is_beside(world, node, tile, tiles), answer)
                    answers[answer] += 1
        self.assertTrue(min(answers) > 60, answers)

    def test_is_beside_of_any_value(self):
        node = ("a", ("m", "s"))
        tiles = guide_beside(SHORE, node, "m")
        for thing in (*odd_values(), *nearly(tiles), guide(SHORE), {**tiles, node: "s"}):
            answer = is_guide(SHORE, thing) and is_beside_by_words(SHORE, all_told(SHORE), node, "m", thing)
            self.assertIs(is_beside(SHORE, node, "m", thing), answer)

    def test_a_node_that_is_tied_to_itself(self):
        whole = ("m", ("a", "b", "s"))
        self.assertIsNone(beside_look(APART, whole, "a"))
        self.assertEqual(beside_look(APART, whole, "s")[whole], ("s",))
        self.assertEqual(beside_look(APART, ("m", ("a",)), "a")[whole], ("a", "b", "s"))
        self.assertEqual(guide_beside(APART, whole, "s")[whole], "s")


class Free(unittest.TestCase):
    def test_bound_pick(self):
        answers = {"free": 0, "sure": 0, "not sure": 0}
        for dice, world in samples(150):
            pairs = [(node, tile) for node in nodes(world) for tile in node[1]]
            least = next((pair for pair in pairs if guide_beside(world, *pair) is None), None)
            self.assertEqual(bound_pick(world), least)
            self.assertIs(is_free(world), least is None)
            answers["free" if least is None else "sure" if is_sure(world) else "not sure"] += 1
            if not is_sure(world):
                self.assertEqual(least, pairs[0])
        self.assertTrue(min(answers.values()) > 7, answers)

    def test_free_worlds_are_sure(self):
        for dice, world in free_worlds(20):
            self.assertTrue(is_sure(world))
            self.assertIsNone(bound_pick(world))

    def test_small_ones(self):
        self.assertEqual([is_free(world) for world in (SHORE, TURNS, TWO, LONE)], [True] * 4)
        self.assertEqual([is_free(world) for world in (APART, PAIR, STONES, COAST)], [False] * 4)
        self.assertEqual(bound_pick(APART), (("m", ("a", "b", "s")), "a"))
        self.assertEqual(bound_pick(PAIR), (("a", ("p",)), "p"))


class Stuck(unittest.TestCase):
    def is_stuck_by_words(self, world, land, ahead, thing):
        if type(thing) is not tuple or thing == ():
            return False
        cells = [cell for cell, mark in land[0]]
        for pick in thing:
            if type(pick) is not tuple or len(pick) != 2 or pick[0] not in cells or pick[1] not in world[0]:
                return False
        for cell, tile in thing:
            lots = left_by_words(world, land, ahead)
            if lots is None or tile not in lots[cell]:
                return False
            ahead = {**ahead, cell: (tile,)}
        return left_by_words(world, land, ahead) is None

    def test_rows(self):
        land = ring(STONES, ("m",) * 5, "r")
        for row, answer in (
            ((("c0", "a"),), True),
            ((("c0", "s"),), False),
            ((("c0", "a"), ("c1", "b")), False),
            ((("c0", "s"), ("c1", "s")), False),
            ((("c0", "s"), ("c1", "a")), False),
            ((), False),
            ([("c0", "a")], False),
            ((("c5", "a"),), False),
            ((("c0", "x"),), False),
        ):
            self.assertIs(is_stuck(STONES, land, {}, row), answer, row)
        self.assertFalse(is_stuck(STONES, land, {"c1": ("a",)}, (("c0", "a"),)))
        self.assertTrue(is_stuck(STONES, land, {"c1": ("a", "b")}, (("c0", "a"),)))

    def test_where_the_look_refuses_at_once(self):
        self.assertIsNone(look(STONES, TRIANGLE, {"x": ("a",)}))
        for row in ((), (("x", "a"),), (("y", "b"),)):
            self.assertIs(is_stuck(STONES, TRIANGLE, {"x": ("a",)}, row), False)

    def test_against_the_words(self):
        answers = [0, 0]
        for dice, world in samples(400):
            land = random_land(world, dice, 5, 12)
            ahead = random_ahead(world, land, dice) if dice.below(2) else {}
            row = ()
            for _ in range(5 if land[0] else 0):
                lots = left_by_words(world, land, {**ahead, **{cell: (tile,) for cell, tile in row}})
                cell = dice.one(land[0])[0]
                row += ((cell, dice.one(lots[cell] if lots and dice.below(9) else world[0])),)
                answer = self.is_stuck_by_words(world, land, ahead, row)
                self.assertIs(is_stuck(world, land, ahead, row), answer)
                answers[answer] += 1
        self.assertTrue(min(answers) > 15, answers)

    def test_rows_of_more_than_one_pick(self):
        land = ((("x", "m"), ("y", "m"), ("z", "m")), (("r", "x", "y"), ("r", "x", "z"), ("r", "y", "z")))
        couples = (("a", "b"), ("a", "c"), ("b", "a"), ("b", "c"), ("c", "a"), ("c", "b"))
        world = (("a", "b", "c"), (("r", couples),), ("m",), (("r", "m", "m"),), (("a", "b"),))
        ahead = {"z": ("a", "b"), "y": ("a", "b")}
        row = (("x", "a"),)
        self.assertTrue(is_stuck(world, land, ahead, row))
        ties = (*land[1], ("r", "x", "z9"), ("r", "y", "z9"), ("r", "z", "z9"))
        four = ((*land[0], ("z9", "m")), tuple(sorted(ties)))
        self.assertTrue(is_stuck(world, four, {}, (("x", "a"), ("y", "b"))))
        self.assertFalse(is_stuck(world, four, {}, (("x", "a"),)))
        self.assertFalse(is_stuck(world, four, {}, (("x", "a"), ("y", "b"), ("z", "c"))))
        self.assertFalse(is_stuck(world, four, {}, (("x", "a"), ("y", "a"))))

    def test_any_value(self):
        row = (("x", "s"), ("y", "s"))
        for thing in (*odd_values(), *nearly(row), *nearly((("x", "a"),)), *((value,) for value in odd_values())):
            self.assertIs(is_stuck(STONES, TRIANGLE, {}, thing), self.is_stuck_by_words(STONES, TRIANGLE, {}, thing))
        for value in odd_values():
            self.assertFalse(is_stuck(STONES, TRIANGLE, {}, ((value, "a"),)) and value != "x")
            self.assertFalse(is_stuck(STONES, TRIANGLE, {}, (("x", value),)) and value not in ("a", "b"))

    def test_nobody_is_stuck_in_a_free_world(self):
        picked_many = 0
        for seed, (dice, world) in enumerate(free_worlds(30)):
            land = greatest_land(world, dice) if seed % 6 == 0 else random_land(world, dice, 7, 12)
            ahead = random_ahead(world, land, dice) if seed % 2 else {}
            if look(world, land, ahead) is None:
                ahead = {}
            lots = look(world, land, ahead)
            told = dict(ahead)
            for cell in dice.mixed(lots):
                told[cell] = (dice.one(lots[cell]),)
                lots = look(world, land, told)
                self.assertIsNotNone(lots)
                picked_many += 1
        self.assertGreater(picked_many, 300)

    def test_one_pick_is_enough_where_the_world_is_sure(self):
        found = 0
        for dice, world in samples(300):
            if is_sure(world) and not is_free(world):
                land, ahead, picks = stuck_land(world)
                self.assertEqual(len(picks), 1)
                self.assertTrue(self.is_stuck_by_words(world, land, ahead, picks))
                found += 1
        self.assertGreater(found, 20)
