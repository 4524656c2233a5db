"""Points 3 and 4: arguments stay, what is returned is new, equal arguments give equal results in any order of calls."""

import copy
import unittest

from laidanyhow import arising, forms, free, guides, lands, landtexts, layings, looks, rounds, strikes, sums, tried
from laidanyhow import webs, worlds, worldtexts, wronglands
from laidanyhow.errors import TileError
from tests.samples import COAST, STONES, TRIANGLE, TURNS, WHEEL, Dice, great_world, greatest_land, land_of
from tests.samples import random_ahead, random_forest

TORN = (
    ("a", "b", "c"), (("r", (("a", "a"), ("a", "b"), ("b", "c"))),), ("m",), (("r", "m", "m"),),
    (("b", "c"), ("c",)),
)
TRUTHS = ("fits", "holds", "can_be_struck", "can_stand", "can_build", "alike")


def calls():
    """New calls each time, as tuples of a function and its arguments."""
    return [
        (forms.is_world, STONES),
        (forms.is_world, [STONES, {}]),
        (forms.is_lot, STONES, ["a", "b"]),
        (forms.is_told, STONES, ("a", "b")),
        (forms.is_land, STONES, TRIANGLE),
        (forms.is_ahead, STONES, TRIANGLE, {"z": ("a",), "x": ("a", "b"), "q": []}),
        (forms.are_lots, STONES, TRIANGLE, {"z": ("a",), "x": ("a", "b"), "y": ("s",)}),
        (forms.is_tiling, STONES, TRIANGLE, {"z": "a", "x": "b", "y": "s"}),
        (forms.are_picks, STONES, TRIANGLE, [("x", "a")]),
        (worlds.world_fault, [list(STONES), {"a": []}]),
        (worlds.world_fault, TORN),
        (worlds.checked_world, TORN),
        (worlds.checked_world, COAST),
        (worlds.kinds_of, COAST),
        (worlds.couples_of, COAST, "near"),
        (worlds.fits, COAST, "near", "water", "sand"),
        (worlds.partners, COAST, "near", "water"),
        (worlds.partners_ahead, COAST, "near", "water"),
        (worlds.told_lots, COAST),
        (worlds.common_tiles, ("a", "b"), ("b", "c")),
        (worlds.handed, WHEEL, ("r", "m", "n"), ("a", "b")),
        (worlds.handed_back, WHEEL, ("r", "m", "n"), ("a", "b")),
        (worlds.holds, WHEEL, "r", ("a", "b"), ("b", "c")),
        (worlds.turned_world, COAST),
        (worlds.renamed_world, STONES, {"s": "a", "b": "c", "a": "b"}),
        (worlds.trimmed_world, TORN),
        (worldtexts.world_text, COAST),
        (worldtexts.read_world, worldtexts.world_text(COAST)),
        (worldtexts.read_world, "tile a\nmark m\ntold a a"),
        (worldtexts.read_world, ["tile a"]),
    ]


def calls_on_lands():
    told = {"z": ("a", "b"), "x": ("a", "b")}
    refused = {"y": ("a", "b", "s"), "x": ("a",)}
    return [
        *calls_on(STONES, TRIANGLE, told),
        *calls_on(STONES, TRIANGLE, refused),
        *calls_on(TURNS, ((("c0", "m"), ("c1", "n")), (("r", "c0", "c1"), ("r", "c1", "c0"))), {"c1": ("a",)}),
        *calls_on(STONES, ((), ()), {}),
        (lands.land_fault, STONES, [TRIANGLE]),
        (lands.checked_land, TURNS, TRIANGLE),
        (lands.grid, TURNS, (("m", "n"), ("n", "m")), "r", "r"),
        (lands.grid, TURNS, (("m", "n"), ("n", "m")), None, None),
        (lands.grid, TURNS, (("m", "n"), ("m", "n")), "r", "r"),
        (lands.ring, TURNS, ("m", "n") * 6, "r"),
        (lands.ring, TURNS, ("m", "n", "m"), "r"),
        (landtexts.picture, (("m",),), {"r0c0": ("a", "b")}),
        (landtexts.read_land, STONES, "tie r x x\ncell x m"),
        (landtexts.read_land, [], "tie r x x\ncell x m"),
        (landtexts.read_ahead, STONES, TRIANGLE, "ahead x a s"),
        (landtexts.read_tiles, STONES, TRIANGLE, ["lay x a"]),
        (looks.picked, {"z": ("a", "b"), "x": ("s",)}, ("y", "a")),
        (looks.are_let, STONES, TRIANGLE, {}, (("z", "s"), ("x", "s"))),
        (strikes.can_be_struck, STONES, TRIANGLE, {"z": (), "y": ("a",), "x": ()}, ("y", "a", ("r", "x", "y"))),
        (strikes.is_strikes, STONES, TRIANGLE, refused, [("y", "a", ("r", "x", "y")), {}]),
        (strikes.is_refusal, STONES, TRIANGLE, refused, {"x": [()]}),
    ]


def calls_on(world, land, ahead):
    """Calls of all functions that take any land and what is told ahead, with arguments of that size."""
    cells = lands.cells_of(land)
    tiles = {cell: lot[0] for cell, lot in reversed(list(ahead.items()))}
    lots = {cell: ahead.get(cell, world[0][-2:]) for cell in reversed(cells)}
    row = strikes.strikes_of(world, land, ahead)
    parts_of_it = [
        (call, land, cell) for cell in cells[:2] for call in (lands.mark_of, lands.ties_at, lands.neighbours)
    ]
    return parts_of_it + [
        (lands.checked_land, world, land),
        (lands.cells_of, land),
        (lands.pieces, land),
        (lands.steps_from, land, cells[1:2]),
        (lands.steps_from, land, cells[::-3][::-1]),
        (lands.is_forest, land),
        (lands.part_of, land, cells[::2]),
        (lands.beside_each_other, lands.part_of(land, cells[1::2]), lands.part_of(land, cells[::2])),
        (landtexts.land_text, land),
        (landtexts.ahead_text, ahead),
        (landtexts.tiles_text, tiles),
        (landtexts.read_land, world, landtexts.land_text(land)),
        (landtexts.read_ahead, world, land, landtexts.ahead_text(ahead)),
        (landtexts.read_tiles, world, land, landtexts.tiles_text(tiles)),
        (looks.first_lots, world, land, ahead),
        (looks.look, world, land, ahead),
        (looks.look_on, world, land, lots),
        (looks.are_let, world, land, ahead, tuple(tiles.items())),
        (looks.open_cells, lots),
        (looks.are_held, world, land, lots),
        (strikes.struck, world, land, ahead, row),
        (strikes.is_strikes, world, land, ahead, row),
        (strikes.strikes_of, world, land, ahead),
        (strikes.is_refusal, world, land, ahead, row),
        (strikes.refusal, world, land, ahead),
        (strikes.short_refusal, world, land, ahead),
    ]


def calls_of_the_greatest_size():
    told = []
    for seed, world in enumerate((STONES, COAST, TURNS)):
        land = greatest_land(world, Dice(seed))
        cells = Dice(seed).mixed(lands.cells_of(land))
        told += calls_on(world, land, {cells[0]: world[0], cells[1]: world[0][:1]})
        told += calls_on(world, land, {cell: world[0][place % 2:][:1] for place, cell in enumerate(cells)})
    return told


def calls_of_layings(world, land, ahead):
    """Calls of all functions that go through the layings of any small land."""
    least = layings.least_laying(world, land, ahead)
    tree = layings.no_laying(world, land, ahead)
    turned = {cell: least[cell] for cell in reversed(list(least))} if least else {}
    return [
        (layings.is_laying, world, land, ahead, turned),
        (layings.is_laying, world, land, ahead, [turned]),
        (layings.least_laying, world, land, ahead),
        (layings.all_layings, world, land, ahead, 0),
        (layings.all_layings, world, land, ahead, 5000),
        (layings.no_laying, world, land, ahead),
        (layings.is_no_laying, world, land, ahead, tree),
        (layings.is_no_laying, world, land, ahead, ("tried", "x", [{"x": tree}])),
    ]


def calls_of_sums(world, land, ahead):
    """Calls of all functions that sum over any forest."""
    cell = land[0][len(land[0]) // 2][0]
    least = layings.least_laying(world, land, ahead)
    turned = {one: least[one] for one in reversed(list(least))} if least else None
    return ([(sums.number_of, world, land, ahead, turned)] if least else []) + [
        (sums.layings_many, world, land, ahead),
        (sums.standing_many, world, land, ahead, cell),
        (sums.laying_at, world, land, ahead, 0),
        (sums.laying_at, world, land, ahead, -1),
        (sums.laying_at, world, land, ahead, 10 ** 39),
        (sums.share, world, land, ahead, cell, world[0][-1]),
    ]


def calls_on_layings():
    told = {"z": ("a", "b"), "x": ("a", "b")}
    ring = lands.ring(TURNS, ("m", "n") * 4, "r")
    line = (TRIANGLE[0], TRIANGLE[1][:2])
    return [
        *calls_of_layings(STONES, TRIANGLE, {}),
        *calls_of_layings(STONES, TRIANGLE, told),
        *calls_of_layings(STONES, TRIANGLE, {"x": ("a",)}),
        *calls_of_layings(TURNS, ring, {"c7": ("a",)}),
        *calls_of_layings(STONES, ((), ()), {}),
        *calls_of_sums(STONES, line, {}),
        *calls_of_sums(STONES, line, told),
        *calls_of_sums(STONES, line, {"z": ("a",), "x": ("b",)}),
    ]


def calls_on_the_greatest_layings():
    told = []
    for seed, world in enumerate((STONES, COAST, great_world(Dice(1)))):
        dice = Dice(seed)
        land = land_of(world, dice, ["c%d" % place for place in range(12)], 24)
        told += calls_of_layings(world, land, {})
        told += calls_of_layings(world, land, random_ahead(world, land, dice))
        forest = random_forest(world, dice, 60)
        told += calls_of_sums(world, forest, {})
        told += calls_of_sums(world, forest, random_ahead(world, forest, dice))
        told.append((layings.least_laying, world, forest, {}))
        told.append((layings.no_laying, world, forest, random_ahead(world, forest, dice)))
    return told


def calls_of_webs(world):
    """Calls of all functions that tell of the lots that arise, of rounds and of the web of a world."""
    found = arising.nodes(world)
    row = arising.story(world)
    lots = {node: node[1][:2] for node in reversed(found)}
    picks = [(found[0], found[0][1][0]), (found[-1], found[-1][1][-1]), (found[2], world[0][0])]
    return [
        (arising.arising, world),
        (arising.nodes, world),
        (arising.story, world),
        (arising.is_story, world, row),
        (arising.is_story, world, row[::-1]),
        (arising.is_story, world, [row, {}]),
        *((arising.grown, world, node) for node in found[::9]),
        (rounds.round_lots, world, 0),
        (rounds.round_lots, world, 2),
        (rounds.round_lots, world, 10 ** 39),
        (rounds.forgets, world),
        *((rounds.far_tree, world, number) for number in (1, 2, 3, 20, 10 ** 39)),
        (webs.web_lots, world),
        (webs.web_ties, world),
        (webs.web_look, world, {node: node[1] for node in reversed(found)}),
        (webs.web_look, world, lots),
        *((webs.web_led, world, tuple(picks[:many])) for many in range(4)),
    ]


def calls_on_webs():
    return [call for world in (STONES, COAST, TURNS, WHEEL) for call in calls_of_webs(world)]


def calls_on_the_greatest_webs():
    worlds_told = [great_world(Dice(seed)) for seed in range(2)] + [great_world(Dice(3), each_told=True)]
    return [call for world in worlds_told for call in calls_of_webs(world)]


def calls_of_guides(world, land, ahead):
    """Calls of all functions that tell of guides, of free worlds and of lands that go wrong."""
    found = arising.nodes(world)
    told = [
        (guides.guide, world),
        (guides.is_sure, world),
        (guides.is_guide, world, {node: node[1][0] for node in reversed(found)}),
        (guides.is_guide, world, [world, {}]),
        (guides.is_bar, world, ((), found[0])),
        (guides.is_bar, world, [found, {}]),
        (guides.laying_by, world, land, ahead),
        (free.is_free, world),
        (free.bound_pick, world),
        (free.is_stuck, world, land, ahead, tuple((cell, world[0][0]) for cell, mark in land[0][:3])),
        (free.is_stuck, world, land, ahead, [land[0], {}]),
        *((wronglands.copies, world, many) for many in (1, 2, 10 ** 39)),
        (wronglands.wrong_land, world),
        (wronglands.stuck_land, world),
    ]
    for node in found[::11]:
        tile = node[1][-1]
        tiles = free.guide_beside(world, node, tile) or {}
        told += [(free.beside_look, world, node, tile), (free.guide_beside, world, node, tile)]
        told += [(free.is_beside, world, node, tile, {one: tiles[one] for one in reversed(list(tiles))})]
    return told


def calls_of_tries(world, land, ahead):
    """Calls of all functions that try tiles on any land."""
    picks = [(cell, world[0][-1]) for cell, mark in land[0][::-2]]
    return [
        (tried.tried, world, land, ahead),
        (tried.must_stand, world, land, ahead),
        *((tried.can_stand, world, land, ahead, cell, world[0][0]) for cell, mark in land[0][::20]),
        (tried.built, world, land, ahead),
        (tried.led, world, land, ahead, picks),
        (tried.led, world, land, ahead, tuple(picks[:1])),
        (tried.led, world, land, ahead, ()),
        (tried.grief, world, land, ahead),
    ]


def calls_on_guides():
    shore = (*COAST[:2], ("any",), (("by", "any", "any"),), ())
    told = {"z": ("a", "b"), "x": ("a", "b")}
    cells = (("x", "any"), ("y", "any"), ("z", "any"))
    ties = (("by", "x", "y"), ("by", "x", "z"), ("by", "y", "z"))
    apart = (*STONES[:4], ())
    return [
        *calls_of_guides(STONES, TRIANGLE, told),
        *calls_of_guides(apart, TRIANGLE, {"z": ("s",)}),
        *calls_of_guides(COAST, (cells, ties), {"z": ("sand", "water"), "x": ("meadow",)}),
        *calls_of_guides(shore, (cells, ties), {"z": ("meadow",), "x": ("water",)}),
        *calls_of_tries(STONES, TRIANGLE, told),
        *calls_of_tries(STONES, TRIANGLE, {"x": ("a",)}),
        *calls_of_tries(shore, (cells, ties), {"z": ("meadow",)}),
        *calls_of_tries(STONES, ((), ()), {}),
    ]


def calls_on_the_greatest_guides():
    told = []
    for seed, world in enumerate((great_world(Dice(5)), great_world(Dice(3), each_told=True), STONES, COAST)):
        dice = Dice(seed)
        land = greatest_land(world, dice)
        ahead = {cell: dice.one([world[0], world[0][:1]]) for cell, mark in dice.mixed(land[0])[:3]}
        told += calls_of_guides(world, land, ahead)
        told += calls_of_tries(world, land, ahead)
    return told


def answer(call):
    """What a call returns or raises, as text."""
    try:
        return repr(call[0](*call[1:]))
    except TileError as error:
        return repr((error.__class__.__name__, vars(error)))


def parts(thing):
    """All lists and dicts in a value, itself too."""
    if isinstance(thing, (list, dict)):
        yield thing
    if isinstance(thing, (list, tuple)):
        for part in thing:
            yield from parts(part)
    if isinstance(thing, dict):
        for key in thing:
            yield from parts(key)
            yield from parts(thing[key])


def spoil(thing):
    for part in list(parts(thing)):
        if isinstance(part, list):
            part.append("spoilt")
        else:
            part["spoilt"] = True


class Points(unittest.TestCase):
    calls = staticmethod(calls)

    def test_arguments_are_not_changed(self):
        for call in self.calls():
            before = copy.deepcopy(call[1:])
            shown = repr(before)
            answer(call)
            self.assertEqual(repr(call[1:]), shown)

    def test_equal_results_in_any_order_of_calls(self):
        first = [answer(call) for call in self.calls()]
        again = [answer(call) for call in reversed(self.calls())]
        self.assertEqual(again[::-1], first)
        self.assertEqual([answer(call) for call in self.calls()], first)

    def test_equal_results_of_dicts_in_another_order(self):
        for call in self.calls():
            turned = [
                {key: arg[key] for key in reversed(list(arg))} if isinstance(arg, dict) else arg for arg in call[1:]
            ]
            self.assertEqual(answer((call[0], *turned)), answer(call))

    def test_results_are_new(self):
        for call in self.calls():
            shown = answer(call)
            try:
                result = call[0](*call[1:])
            except TileError:
                continue
            inner = [id(part) for part in parts(result)]
            self.assertEqual(len(set(inner)), len(inner))
            self.assertFalse(set(inner) & {id(part) for part in parts(call[1:])})
            before = repr(call[1:])
            spoil(result)
            self.assertEqual(repr(call[1:]), before)
            self.assertEqual(answer(call), shown)

    def test_keys_ascend(self):
        for call in self.calls():
            try:
                result = call[0](*call[1:])
            except TileError:
                continue
            for part in parts(result):
                if isinstance(part, dict):
                    self.assertEqual(list(part), sorted(part))

    def test_truths_are_truths(self):
        for call in self.calls():
            if call[0].__name__.startswith(("is_", "are_")) or call[0].__name__ in TRUTHS:
                try:
                    result = call[0](*call[1:])
                except TileError:
                    continue
                self.assertIs(type(result), bool)


class PointsOnLands(Points):
    calls = staticmethod(calls_on_lands)


class PointsOnTheGreatestLands(Points):
    calls = staticmethod(calls_of_the_greatest_size)

    def test_the_lands_are_as_great(self):
        sizes = {(len(land[0]), len(land[1])) for land in (call[2] for call in self.calls() if call[0] == looks.look)}
        self.assertIn((60, 200), sizes)


class PointsOnLayings(Points):
    calls = staticmethod(calls_on_layings)


class PointsOnTheGreatestLayings(Points):
    calls = staticmethod(calls_on_the_greatest_layings)


class PointsOnWebs(Points):
    calls = staticmethod(calls_on_webs)


class PointsOnTheGreatestWebs(Points):
    calls = staticmethod(calls_on_the_greatest_webs)

    def test_the_webs_are_as_great(self):
        self.assertEqual(max(len(arising.nodes(call[1])) for call in self.calls()), 60)


class PointsOnGuides(Points):
    calls = staticmethod(calls_on_guides)


class PointsOnTheGreatestGuides(Points):
    calls = staticmethod(calls_on_the_greatest_guides)
