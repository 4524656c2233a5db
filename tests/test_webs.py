"""Point 23: the web."""

import unittest

from laidanyhow.arising import nodes
from laidanyhow.errors import NoPick
from laidanyhow.webs import web_led, web_lots, web_look, web_ties
from tests.by_words import nodes_by_words, web_look_by_words, web_ties_by_words
from tests.samples import LONE, STONES, WHEEL, WORLDS, Dice, all_told, great_world, random_world

TURNS = (("p", "q"), (("by", (("p", "q"), ("q", "p"))),), ("a",), (("by", "a", "a"),), ())
# In the lot of all three tiles each tile has another one behind it and ahead of it, a in itself alone.
LOOP = (
    ("a", "b", "c"), (("k", (("a", "a"), ("a", "b"), ("b", "c"), ("c", "a"))),), ("m",), (("k", "m", "m"),), (),
)


def samples(many):
    for seed in range(many):
        dice = Dice(seed)
        if seed % 9 == 0:
            yield dice, great_world(dice)
        else:
            yield dice, (WORLDS + (TURNS, LOOP))[seed] if seed < 7 else random_world(dice)


def some_lots(dice, world, part):
    """WEB LOTS, the keys in any order."""
    found = dice.mixed(nodes(world))
    return {node: tuple(dice.some(node[1], part)) or node[1] if dice.below(part) else node[1] for node in found}


class Webs(unittest.TestCase):
    def test_web_lots(self):
        for dice, world in samples(60):
            lots = web_lots(world)
            self.assertEqual(list(lots), nodes_by_words(world, all_told(world)))
            self.assertTrue(all(lots[mark, lot] == lot for mark, lot in lots))

    def test_web_ties(self):
        loops = 0
        for dice, world in samples(60):
            ties = web_ties(world)
            self.assertEqual(ties, tuple(web_ties_by_words(world, all_told(world))))
            loops += any(one == other for tie, one, other in ties)
        self.assertGreater(loops, 20)
        self.assertEqual(web_ties(LONE), ())

    def test_which_nodes_are_tied(self):
        pair, one = ("n", ("b", "c")), ("m", ("a", "b"))
        self.assertIn((("r", "m", "n"), one, pair), web_ties(WHEEL))
        self.assertNotIn((("r", "m", "n"), ("m", ("b", "c")), pair), web_ties(WHEEL))
        self.assertTrue(all(tie[1] == one[0] and tie[2] == other[0] for tie, one, other in web_ties(WHEEL)))

    def test_nothing_is_struck_of_all_lots(self):
        for dice, world in samples(60):
            self.assertEqual(web_look(world, web_lots(world)), web_lots(world))
            self.assertEqual(web_led(world, ()), web_lots(world))

    def test_web_look(self):
        answers = [0, 0, 0]
        for dice, world in samples(150):
            ties = web_ties_by_words(world, all_told(world))
            for part in (2, 4, 9, 30):
                lots = some_lots(dice, world, part)
                expected = web_look_by_words(world, ties, lots)
                left = web_look(world, lots)
                self.assertEqual(left, expected)
                if left is not None:
                    self.assertEqual(list(left), sorted(lots))
                answers[0 if left is None else 1 if left == lots else 2] += 1
        self.assertTrue(min(answers) > 30, answers)

    def test_a_tie_from_a_node_to_itself(self):
        whole = ("m", ("a", "b", "c"))
        self.assertIn((("k", "m", "m"), whole, whole), web_ties(LOOP))
        free = web_lots(LOOP)
        for lot, left in (
            (("a", "b"), ("a",)),
            (("a", "c"), ("a",)),
            (("b", "c"), None),
            (("a",), ("a",)),
            (("b",), None),
        ):
            alone = [(tie, one, other) for tie, one, other in web_ties(LOOP) if one == other == whole]
            expected = web_look_by_words(LOOP, alone, {**free, whole: lot})
            self.assertEqual(expected and expected[whole], left)
            told = web_look(LOOP, {**free, whole: lot})
            self.assertEqual(told, web_look_by_words(LOOP, web_ties(LOOP), {**free, whole: lot}))
            if left is None:
                self.assertIsNone(told)

    def test_both_ways_at_a_tie_to_itself(self):
        couples = (("a", "b"), ("a", "c"), ("b", "a"), ("c", "a"))
        both = (("a", "b", "c"), (("k", couples),), ("m",), (("k", "m", "m"),), ())
        node = ("m", ("a", "b", "c"))
        self.assertEqual(web_look(both, {**web_lots(both), node: ("a",)}), None)
        turned = (both[0], (("k", (("a", "b"), ("b", "b"), ("b", "c"), ("c", "a"))),), *both[2:])
        for world in (both, turned):
            for lot in (("a", "b"), ("b", "c"), ("a", "c"), ("b",), ("c",)):
                lots = {**web_lots(world), node: lot}
                self.assertEqual(web_look(world, lots), web_look_by_words(world, web_ties(world), lots))


class Picks(unittest.TestCase):
    def led_by_words(self, world, ties, picks):
        """What is left behind the PICKS, or the index of the first one that cannot be picked."""
        left = {node: node[1] for node in nodes(world)}
        for index, (node, tile) in enumerate(picks):
            if tile not in left[node]:
                return index
            left = web_look_by_words(world, ties, {**left, node: (tile,)})
            if left is None:
                return index
        return left

    def test_web_led(self):
        answers = {dict: 0, int: 0}
        indexes = set()
        for dice, world in samples(150):
            ties = web_ties_by_words(world, all_told(world))
            for many in (1, 2, 4):
                picks = []
                for _ in range(many):
                    node = dice.one(nodes(world))
                    picks.append((node, dice.one(node[1] if dice.below(6) else world[0])))
                expected = self.led_by_words(world, ties, picks)
                answers[type(expected)] += 1
                if type(expected) is int:
                    indexes.add(expected)
                    with self.assertRaises(NoPick) as caught:
                        web_led(world, tuple(picks))
                    self.assertEqual(caught.exception.index, expected)
                else:
                    left = web_led(world, tuple(picks))
                    self.assertEqual(left, expected)
                    self.assertEqual(list(left), sorted(left))
        self.assertTrue(min(answers.values()) > 60, answers)
        self.assertTrue({0, 1, 2} <= indexes)

    def test_the_index_of_the_first_one(self):
        one, two = ("m", ("a",)), ("m", ("s",))
        for picks, index in (
            (((one, "a"), (two, "s"), (one, "b"), (one, "s")), 2),
            (((one, "b"),), 0),
            (((one, "a"), (one, "a"), (two, "a")), 2),
        ):
            with self.assertRaises(NoPick) as caught:
                web_led(STONES, picks)
            self.assertEqual(caught.exception.index, index)
        self.assertEqual(web_led(STONES, ((one, "a"), (one, "a"), (two, "s"))), web_lots(STONES))

    def test_a_tile_that_was_struck(self):
        couples = (("m", "m"), ("m", "s"), ("s", "m"), ("s", "s"), ("s", "w"), ("w", "s"), ("w", "w"))
        shore = (("m", "s", "w"), (("by", couples),), ("a",), (("by", "a", "a"),), ())
        inland, coast = ("a", ("m", "s")), ("a", ("s", "w"))
        self.assertEqual(web_led(shore, ((inland, "m"),))[coast], ("s",))
        self.assertEqual(web_led(shore, ((coast, "w"),))[inland], ("s",))
        for picks in (((inland, "m"), (coast, "w")), ((coast, "w"), (inland, "m"))):
            with self.assertRaises(NoPick) as caught:
                web_led(shore, picks)
            self.assertEqual(caught.exception.index, 1)
