"""Points 6, 7, 9 and 24: guides, bars, sure worlds, and layings by the guide."""

import unittest

from laidanyhow.arising import nodes
from laidanyhow.errors import NoGuide, NoPick, Refused
from laidanyhow.guides import guide, is_bar, is_guide, is_sure, laying_by
from laidanyhow.lands import beside_each_other, grid
from laidanyhow.layings import is_laying, no_laying
from laidanyhow.looks import look
from laidanyhow.webs import web_led, web_ties
from tests.by_words import guides_by_words, layings_by_words, left_by_words, nodes_by_words, web_look_by_words
from tests.by_words import web_ties_by_words
from tests.samples import COAST, LONE, STONES, TRIANGLE, TURNS, WHEEL, WORLDS, Dice, all_told, great_world
from tests.samples import greatest_land, land_of, nearly, odd_values, random_ahead, random_forest, random_land
from tests.samples import random_world

SHORE = (
    ("m", "s", "w"), (("by", (("m", "m"), ("m", "s"), ("s", "m"), ("s", "s"), ("s", "w"), ("w", "s"), ("w", "w"))),),
    ("a",), (("by", "a", "a"),), (),
)
PAIR = (("p", "q"), (("by", (("p", "q"), ("q", "p"))),), ("a",), (("by", "a", "a"),), ())
APART = (*STONES[:4], ())
TWO = (*SHORE[:2], ("a", "b"), (("by", "a", "a"), ("by", "b", "a")), (("m", "s"), ("s", "w")))


def samples(many):
    for seed in range(many):
        dice = Dice(seed)
        yield dice, (WORLDS + (SHORE, PAIR, APART, TWO))[seed] if seed < 9 else random_world(dice)


def sure_worlds(many):
    """So many SURE WORLDS, small and great ones, each with dice of its own."""
    found = [(Dice(seed), world) for seed, world in enumerate((SHORE, APART, TURNS, TWO, WHEEL, LONE))]
    seed = 0
    while len(found) < many:
        seed += 1
        dice = Dice(seed)
        world = great_world(dice) if seed % 3 == 0 else random_world(dice)
        if is_sure(world):
            found.append((dice, world))
    return [(dice, world) for dice, world in found if is_sure(world)]


def is_guide_by_words(world, told, thing):
    if type(thing) is not dict or len(thing) != len(nodes_by_words(world, told)):
        return False
    if not all(node in thing and thing[node] in node[1] for node in nodes_by_words(world, told)):
        return False
    tables = dict(world[1])
    return all((thing[one], thing[other]) in tables[tie[0]] for tie, one, other in web_ties_by_words(world, told))


def first_tiles_by_words(world, told):
    """The PICKS that go NODE by NODE, and the NODE at which none is left, or None."""
    ties = web_ties_by_words(world, told)
    left = {node: node[1] for node in nodes_by_words(world, told)}
    picks = []
    for node in nodes_by_words(world, told):
        behind = [(tile, web_look_by_words(world, ties, {**left, node: (tile,)})) for tile in left[node]]
        behind = [(tile, lots) for tile, lots in behind if lots is not None]
        if not behind:
            return tuple(picks), node
        picks.append((node, behind[0][0]))
        left = behind[0][1]
    return tuple(picks), None


class Guides(unittest.TestCase):
    def test_against_tries_that_go_back(self):
        answers = [0, 0]
        for dice, world in samples(150):
            told = all_told(world)
            if len(nodes_by_words(world, told)) > 24:
                continue
            sure = any(True for _ in guides_by_words(world, told))
            answers[sure] += 1
            self.assertIs(is_sure(world), sure)
            picks, stuck = first_tiles_by_words(world, told)
            if sure:
                self.assertEqual(tuple(guide(world).items()), picks)
                self.assertIs(is_guide(world, guide(world)), True)
                self.assertIsNone(stuck)
            else:
                with self.assertRaises(NoGuide) as caught:
                    guide(world)
                self.assertEqual(caught.exception.bar, (picks, stuck))
                self.assertIs(is_bar(world, caught.exception.bar), True)
        self.assertTrue(min(answers) > 20, answers)

    def test_node_by_node_in_great_worlds(self):
        answers = [0, 0]
        for seed in range(12):
            world = great_world(Dice(seed * 7))
            picks, stuck = first_tiles_by_words(world, all_told(world))
            answers[is_sure(world)] += 1
            try:
                self.assertEqual(tuple(guide(world).items()), picks)
                self.assertIsNone(stuck)
            except NoGuide as error:
                self.assertEqual(error.bar, (picks, stuck))
                self.assertTrue(is_bar(world, error.bar))
        self.assertGreater(answers[False], 3)

    def test_is_guide(self):
        answers = [0, 0]
        for dice, world in sure_worlds(35):
            told = all_told(world)
            tiles = guide(world)
            self.assertTrue(is_guide_by_words(world, told, tiles))
            turned = {node: tiles[node] for node in reversed(list(tiles))}
            self.assertIs(is_guide(world, turned), True)
            for node in dice.mixed(tiles)[:6]:
                less = {one: tiles[one] for one in tiles if one != node}
                self.assertIs(is_guide(world, less), False)
                for tile in world[0]:
                    answer = is_guide_by_words(world, told, {**tiles, node: tile})
                    self.assertIs(is_guide(world, {**tiles, node: tile}), answer)
                    answers[answer] += 1
            self.assertIs(is_guide(world, {**tiles, ("other", world[0]): world[0][0]}), False)
            self.assertIs(is_guide(world, {**less, ("other", world[0]): world[0][0]}), False)
        self.assertTrue(min(answers) > 100, answers)

    def test_is_guide_of_any_value(self):
        told = all_told(SHORE)
        tiles = guide(SHORE)
        for thing in (*odd_values(), *nearly(tiles), *({**tiles, ("a", ("m",)): value} for value in odd_values())):
            self.assertIs(is_guide(SHORE, thing), is_guide_by_words(SHORE, told, thing))

    def test_is_sure(self):
        self.assertEqual([is_sure(world) for world in (SHORE, APART, TURNS, LONE, TWO)], [True] * 5)
        self.assertEqual([is_sure(world) for world in (PAIR, STONES, COAST)], [False] * 3)


class Bars(unittest.TestCase):
    def is_bar_by_words(self, world, thing):
        if type(thing) is not tuple or len(thing) != 2 or type(thing[0]) is not tuple:
            return False
        picks, node = thing
        for pick in picks:
            if type(pick) is not tuple or len(pick) != 2 or pick[0] not in nodes(world) or pick[1] not in world[0]:
                return False
        if node not in nodes(world) or self.raises(world, picks):
            return False
        return all(self.raises(world, (*picks, (node, tile))) for tile in world[0])

    def raises(self, world, picks):
        try:
            web_led(world, picks)
        except NoPick:
            return True
        return False

    def bars(self, many):
        found = 0
        for dice, world in samples(10000):
            if not is_sure(world):
                try:
                    guide(world)
                except NoGuide as error:
                    yield dice, world, error.bar
                found += 1
                if found == many:
                    return

    def test_bars_that_are_spoilt(self):
        answers = [0, 0]
        for dice, world, bar in self.bars(25):
            picks, node = bar
            things = [(picks, other) for other in nodes(world)[:8]]
            for place in dice.mixed(range(len(picks)))[:4]:
                one, tile = picks[place]
                things += [(picks[:place] + picks[place + 1:], node), (picks + picks[place:place + 1], node)]
                things += [(picks[:place] + ((one, other),) + picks[place + 1:], node) for other in world[0]]
                things += [(picks[:place] + ((node, tile),) + picks[place + 1:], node), (picks[:place], node)]
            for thing in things:
                answer = self.is_bar_by_words(world, thing)
                self.assertIs(is_bar(world, thing), answer)
                answers[answer] += 1
        self.assertTrue(min(answers) > 50, answers)

    def test_any_value(self):
        bar = (((("a", ("p",)), "p"),), ("a", ("p", "q")))
        self.assertIs(is_bar(PAIR, bar), True)
        self.assertIs(is_bar(PAIR, ((), ("a", ("p", "q")))), True)
        things = [*odd_values(), *nearly(bar)]
        for value in odd_values():
            things += [(value, bar[1]), (bar[0], value), ((value,), bar[1]), (((value, "p"),), bar[1])]
            things += [(((("a", ("p",)), value),), bar[1])]
        for thing in things:
            self.assertIs(is_bar(PAIR, thing), self.is_bar_by_words(PAIR, thing), thing)

    def test_there_is_none_in_a_sure_world(self):
        for dice, world in sure_worlds(20):
            for _ in range(12):
                picks = []
                for node in dice.mixed(nodes(world))[:4]:
                    able = [tile for tile in node[1] if not self.raises(world, (*picks, (node, tile)))]
                    picks += [(node, dice.one(able))] if able else []
                    self.assertIs(is_bar(world, (tuple(picks), node)), False)
                    self.assertTrue(able)


class LayingsByTheGuide(unittest.TestCase):
    def test_the_look_is_right_in_a_sure_world(self):
        answers = [0, 0]
        for dice, world in sure_worlds(60):
            tiles = guide(world)
            for number in range(8):
                land = random_land(world, dice, 5, 12)
                ahead = random_ahead(world, land, dice)
                if number % 2:
                    ahead = {cell: (dice.one(world[0]),) for cell, mark in land[0] if dice.below(3)}
                lots = left_by_words(world, land, ahead)
                all_of_them = layings_by_words(world, land, ahead)
                self.assertIs(lots is None, all_of_them == [])
                answers[lots is None] += 1
                if lots is None:
                    with self.assertRaises(Refused):
                        laying_by(world, land, ahead)
                else:
                    laid = laying_by(world, land, ahead)
                    self.assertIn(laid, all_of_them)
                    self.assertEqual(laid, {cell: tiles[mark, lots[cell]] for cell, mark in land[0]})
                    self.assertEqual(list(laid), [cell for cell, mark in land[0]])
        self.assertTrue(min(answers) > 50, answers)

    def test_lands_of_sixty_cells(self):
        laid_at = 0
        for seed, (dice, world) in enumerate(sure_worlds(40)):
            land = greatest_land(world, dice) if seed % 2 else random_forest(world, dice, 60)
            lots = all_told(world)
            for many in (0, 1, 2, 5):
                ahead = {cell: dice.one(lots) for cell, mark in dice.mixed(land[0])[:many]}
                if look(world, land, ahead) is None:
                    self.assertEqual(no_laying(world, land, ahead)[0], "struck")
                else:
                    self.assertTrue(is_laying(world, land, ahead, laying_by(world, land, ahead)))
                    laid_at += 1
        self.assertGreater(laid_at, 80)

    def test_no_guide_comes_first(self):
        land = ((("x", "a"), ("y", "a")), (("by", "x", "y"),))
        for ahead in ({}, {"x": ("p",), "y": ("p",)}):
            with self.assertRaises(NoGuide) as caught:
                laying_by(PAIR, land, ahead)
            self.assertEqual(caught.exception.bar, (((("a", ("p",)), "p"),), ("a", ("p", "q"))))
        with self.assertRaises(Refused):
            laying_by(SHORE, land, {"x": ("m",), "y": ("w",)})
        self.assertEqual(laying_by(SHORE, ((), ()), {}), {})

    def test_one_land(self):
        for dice, world in sure_worlds(30):
            land = land_of(world, dice, ["c%d" % place for place in range(6)], dice.below(9))
            ahead = random_ahead(world, land, dice) if dice.below(3) else {}
            if look(world, land, ahead) is None:
                ahead = {}
            laid = laying_by(world, land, ahead)
            cells = [cell for cell, mark in land[0]]
            names = dict(zip(cells, dice.mixed(["x%d" % place for place in range(6)])))
            other = self.renamed(land, names)
            told = {names[cell]: ahead[cell] for cell in dice.mixed(ahead)}
            self.assertEqual(laying_by(world, other, told), {names[cell]: laid[cell] for cell in cells})
            both = beside_each_other(land, other)
            self.assertEqual(laying_by(world, both, {**told, **ahead}), {**laid, **laying_by(world, other, told)})
            self.assertEqual(laying_by(world, both, ahead)["c0"], laid["c0"])

    def renamed(self, land, names):
        cells = tuple(sorted((names[cell], mark) for cell, mark in land[0]))
        return cells, tuple(sorted((kind, names[one], names[other]) for kind, one, other in land[1]))

    def test_turned_onto_itself(self):
        land = grid(SHORE, (("a",) * 5,) * 3, "by", "by")
        ahead = {"r1c2": ("w",), "r0c0": ("m",), "r2c4": ("m",)}
        laid = laying_by(SHORE, land, ahead)
        for row in range(3):
            for column in range(5):
                self.assertEqual(laid["r%dc%d" % (row, column)], laid["r%dc%d" % (2 - row, 4 - column)])
        self.assertTrue(is_laying(SHORE, land, ahead, laid))

    def test_the_web_is_what_the_guide_stands_on(self):
        tiles = guide(TWO)
        for tie, one, other in web_ties(TWO):
            self.assertIn((tiles[one], tiles[other]), dict(TWO[1])[tie[0]])
        self.assertEqual(laying_by(APART, TRIANGLE, {}), {"x": "s", "y": "s", "z": "s"})
