"""Points 29 and 4: finer marks, rings of marks, and what the finer worlds take over."""

import unittest

from laidanyhow.arising import arising
from laidanyhow.covers import is_cover, laid_down, least_ring, lifted, ring_down, ring_land, ring_world
from laidanyhow.errors import NoGuide
from laidanyhow.forms import is_land, is_world
from laidanyhow.free import is_free
from laidanyhow.guides import guide, is_guide, is_sure, laying_by
from laidanyhow.lands import pieces
from laidanyhow.layings import is_laying
from laidanyhow.looks import look
from laidanyhow.rounds import forgets, round_lots
from tests.by_words import arising_by_words
from tests.samples import COAST, LONE, STONES, TURNS, WHEEL, WORLDS, Dice, all_told, great_world, greatest_land
from tests.samples import nearly, odd_values, random_ahead, random_land, random_world

SHORE = (
    ("m", "s", "w"), (("by", (("m", "m"), ("m", "s"), ("s", "m"), ("s", "s"), ("s", "w"), ("w", "s"), ("w", "w"))),),
    ("a",), (("by", "a", "a"),), (),
)
TWO = (("p", "q"), (("by", (("p", "q"), ("q", "p"))),), ("a",), (("by", "a", "a"),), ())
THREE = (("a", "b", "c"), (("by", (("a", "b"), ("b", "c"), ("c", "a"))),), ("m",), (("by", "m", "m"),), ())


def random_steps(world, dice):
    kinds = sorted({tie[0] for tie in world[3]})
    return {kind: dice.one([0, 1, 1, -1, 2, 3, -7, 10 ** 20]) for kind in dice.mixed(kinds)}


def samples(many):
    for seed in range(many):
        dice = Dice(seed)
        world = (*WORLDS, SHORE, TWO, THREE)[seed // 2 % 8] if seed % 2 else random_world(dice)
        yield dice, world, random_steps(world, dice)


def ring_by_words(world, many, steps):
    """The finer WORLD of ring_world, and the dict from its MARKS to tuples (mark, number)."""
    greatest = len(world[2]) * many - 1
    names = {}
    for index, mark in enumerate(world[2]):
        for number in range(many):
            digits = str(index * many + number)
            names[mark, number] = "m" + "0" * (len(str(greatest)) - len(digits)) + digits
    ties = [
        (kind, names[one, number], names[other, (number + steps[kind]) % many])
        for kind, one, other in world[3] for number in range(many)
    ]
    finer = (world[0], world[1], tuple(sorted(names.values())), tuple(sorted(ties)), world[4])
    return finer, {name: key for key, name in names.items()}


def numbers_by_words(land, many, steps):
    """The dict from CELLS to numbers, 0 at the least one of each PIECE; None if some way round does not close."""
    numbers = {}
    for piece in pieces(land):
        numbers[piece[0]] = 0
        for _ in piece:
            for kind, one, other in land[1]:
                if one in numbers and other not in numbers:
                    numbers[other] = (numbers[one] + steps[kind]) % many
                if other in numbers and one not in numbers:
                    numbers[one] = (numbers[other] - steps[kind]) % many
    closes = all((numbers[one] + steps[kind] - numbers[other]) % many == 0 for kind, one, other in land[1])
    return numbers if closes else None


def is_cover_by_words(finer, over, thing):
    if finer[0] != over[0] or finer[1] != over[1] or finer[4] != over[4] or type(thing) is not dict:
        return False
    if set(thing) != set(finer[2]) or not all(mark in list(over[2]) for mark in thing.values()):
        return False
    return all((kind, thing[one], thing[other]) in over[3] for kind, one, other in finer[3])


class Covers(unittest.TestCase):
    def test_is_cover_of_dicts_of_marks(self):
        answers = {True: 0, False: 0}
        for dice, world, steps in samples(120):
            over = dice.one([world, ring_world(world, 2, steps)[0]])
            finer, cover = ring_world(over, 1 + dice.below(4), steps)
            things = [cover, {mark: cover[mark] for mark in dice.mixed(cover)}]
            things += [{mark: dice.one(over[2]) for mark in finer[2]} for _ in range(6)]
            things += [{**cover, dice.one(finer[2]): dice.one(over[2])}]
            for thing in things:
                expected = is_cover_by_words(finer, over, thing)
                self.assertIs(is_cover(finer, over, thing), expected)
                answers[expected] += 1
            self.assertIs(is_cover(finer, over, cover), True)
        self.assertTrue(min(answers.values()) > 100, answers)

    def test_is_cover_of_any_value(self):
        finer, cover = ring_world(TURNS, 2, {"r": 1})
        for thing in (*odd_values(), *nearly(cover), *({**cover, "m0": value} for value in odd_values())):
            self.assertIs(is_cover(finer, TURNS, thing), is_cover_by_words(finer, TURNS, thing))
        self.assertFalse(is_cover(finer, TURNS, {**cover, "m4": "m"}))
        self.assertFalse(is_cover(finer, TURNS, {mark: cover[mark] for mark in ("m0", "m1", "m2")}))

    def test_other_tiles_tables_or_told(self):
        finer, cover = ring_world(SHORE, 3, {"by": 1})
        couples = SHORE[1][0][1]
        for over in (
            (("m", "s", "t"), *SHORE[1:]),
            (SHORE[0], (("by", couples[1:]),), *SHORE[2:]),
            (SHORE[0], (("by", couples), ("to", couples)), *SHORE[2:]),
            (*SHORE[:4], (("m", "s"),)),
        ):
            self.assertFalse(is_cover(finer, over, cover))
            self.assertFalse(is_cover((*over[:2], *finer[2:4], over[4]), SHORE, cover))
        self.assertTrue(is_cover(finer, SHORE, cover))
        self.assertTrue(is_cover((*finer[:2], ("m0",), (), ()), SHORE, {"m0": "a"}))
        self.assertFalse(is_cover(SHORE, (*SHORE[:3], (), ()), {"a": "a"}))
        self.assertTrue(is_cover(SHORE, (*SHORE[:2], ("a", "b"), SHORE[3], ()), {"a": "a"}))
        self.assertFalse(is_cover(SHORE, (*SHORE[:2], ("a", "b"), SHORE[3], ()), {"a": "b"}))

    def test_laid_down(self):
        for dice, world, steps in samples(60):
            finer, cover = ring_world(world, 3, steps)
            land = random_land(finer, dice, 8, 12)
            down = laid_down(land, {mark: cover[mark] for mark in dice.mixed(cover)})
            self.assertEqual(down, (tuple((cell, cover[mark]) for cell, mark in land[0]), land[1]))
            self.assertTrue(is_land(world, down))
        self.assertEqual(laid_down(((), ()), {"m0": "a"}), ((), ()))

    def test_lifted(self):
        lifts = 0
        for dice, world, steps in samples(160):
            many = 1 + dice.below(4)
            finer, cover = ring_world(world, many, steps)
            lots = arising_by_words(world, all_told(world))
            finer_lots = arising(finer)
            for mark in finer[2]:
                self.assertLessEqual(set(finer_lots[mark]), set(lots[cover[mark]]))
            try:
                tiles = guide(world)
            except NoGuide:
                continue
            found = lifted(finer, world, cover, {node: tiles[node] for node in dice.mixed(tiles)})
            self.assertEqual(list(found), sorted((mark, lot) for mark in finer[2] for lot in finer_lots[mark]))
            self.assertTrue(all(found[mark, lot] == tiles[cover[mark], lot] for mark, lot in found))
            self.assertTrue(is_guide(finer, found))
            lifts += 1
        self.assertGreater(lifts, 60)

    def test_what_a_finer_world_takes_over(self):
        kept = {"sure": 0, "free": 0, "forgets": 0, "won": 0}
        for dice, world, steps in samples(160):
            finer, cover = ring_world(world, 1 + dice.below(4), steps)
            self.assertLessEqual(is_sure(world), is_sure(finer))
            self.assertLessEqual(is_free(world), is_free(finer))
            kept["sure"] += is_sure(world)
            kept["won"] += is_sure(finer) - is_sure(world)
            kept["free"] += is_free(world)
            number = forgets(world)
            if number is not None:
                kept["forgets"] += 1
                self.assertIn(forgets(finer), range(1, number + 1))
            lots = round_lots(world, 2)
            for mark, row in round_lots(finer, 2).items():
                self.assertLessEqual(set(row), set(lots[cover[mark]]))
        self.assertTrue(min(kept.values()) > 10, kept)

    def test_coarser_marks_without_a_ring(self):
        apart = (*STONES[:4], ())
        finer = (*STONES[:2], ("e", "f", "g"), (("r", "e", "f"), ("r", "f", "g")), ())
        self.assertTrue(is_cover(finer, apart, {"g": "m", "e": "m", "f": "m"}))
        self.assertFalse(is_cover(apart, finer, {"m": "e"}))
        found = lifted(finer, apart, {"g": "m", "e": "m", "f": "m"}, guide(apart))
        self.assertTrue(is_guide(finer, found))
        self.assertEqual({mark for mark, lot in found}, {"e", "f", "g"})


class Rings(unittest.TestCase):
    def test_ring_world(self):
        for dice, world, steps in samples(120):
            many = dice.one([1, 2, 3, 4, 7, 12, 30])
            finer, cover = ring_world(world, many, steps)
            expected, keys = ring_by_words(world, many, steps)
            self.assertEqual(finer, expected)
            self.assertEqual(list(cover.items()), [(name, keys[name][0]) for name in expected[2]])
            self.assertTrue(is_world(finer))
            self.assertTrue(is_cover(finer, world, cover))

    def test_as_many_digits_as_the_greatest_number(self):
        for many, marks in ((1, ("m0", "m1")), (5, ("m0", "m9")), (6, ("m00", "m11")), (51, ("m000", "m101"))):
            finer, cover = ring_world(WHEEL, many, {"r": 1})
            self.assertEqual((finer[2][0], finer[2][-1]), marks)
            self.assertEqual(len(finer[2]), 2 * many)
            self.assertEqual([list(cover.values()).count(mark) for mark in "mn"], [many, many])
            self.assertEqual(list(cover.values()), ["m"] * many + ["n"] * many)
        finer, cover = ring_world(WHEEL, 6, {"r": 1})
        self.assertEqual(finer[3][0], ("r", "m00", "m07"))
        self.assertEqual(finer[3][-1], ("r", "m05", "m06"))
        self.assertEqual(ring_world(WHEEL, 500, {"r": 1})[0][2][-1], "m999")
        self.assertEqual(ring_world(WHEEL, 501, {"r": 1})[0][2][-1], "m1001")

    def test_steps_of_all_kinds(self):
        for step, end in ((0, "m0"), (1, "m1"), (-1, "m4"), (5, "m0"), (7, "m2"), (-12, "m3"), (10 ** 30 + 1, "m1")):
            self.assertIn(("by", "m0", end), ring_world(TWO, 5, {"by": step})[0][3])
            self.assertEqual(len(ring_world(TWO, 5, {"by": step})[0][3]), 5)
        self.assertEqual(ring_world(LONE, 2, {}), ((("a",), (), ("m0", "m1"), (), ()), {"m0": "m", "m1": "m"}))

    def test_ring_down(self):
        for dice, world, steps in samples(80):
            many, times = 1 + dice.below(4), 1 + dice.below(4)
            below, keys = ring_by_words(world, many, steps)
            above, upper = ring_by_words(world, many * times, steps)
            found = ring_down(world, many, times, steps)
            self.assertEqual(list(found), list(above[2]))
            for name, (mark, number) in upper.items():
                self.assertEqual(keys[found[name]], (mark, number % many))
            self.assertTrue(is_cover(above, below, found))
            self.assertEqual(is_sure(below) and not is_sure(above), False)

    def test_ring_land(self):
        answers = {"land": 0, "none": 0, "pieces": 0}
        for dice, world, steps in samples(500):
            many = dice.one([1, 2, 2, 3, 4, 6])
            land = random_land(world, dice, 7, dice.one([2, 5, 9]))
            finer, cover = ring_world(world, many, steps)
            _, keys = ring_by_words(world, many, steps)
            numbers = numbers_by_words(land, many, steps)
            found = ring_land(world, land, many, steps)
            if numbers is None:
                self.assertIsNone(found)
                answers["none"] += 1
                continue
            self.assertTrue(is_land(finer, found))
            self.assertEqual(laid_down(found, cover), land)
            self.assertEqual({cell: keys[mark][1] for cell, mark in found[0]}, numbers)
            for piece in pieces(land):
                self.assertEqual(keys[dict(found[0])[piece[0]]][1], 0)
            answers["land"] += len(land[1]) > 0
            answers["pieces"] += len(pieces(land)) > 1
        self.assertTrue(min(answers.values()) > 30, answers)

    def test_ways_round(self):
        cells = tuple((cell, "a") for cell in "wxyz")
        forth = (("by", "w", "x"), ("by", "x", "w"))
        for land, able in (
            ((cells, forth), (1, 2)),
            ((cells, (("by", "w", "x"),)), (1, 2, 3, 4, 5)),
            ((cells, (("by", "w", "x"), ("by", "w", "y"), ("by", "y", "x"))), (1,)),
            ((cells, (("by", "w", "x"), ("by", "w", "y"), ("by", "x", "z"), ("by", "y", "z"))), (1, 2, 3, 4, 5)),
            ((cells, (("by", "w", "x"), ("by", "x", "y"), ("by", "y", "z"), ("by", "z", "w"))), (1, 2, 4)),
            ((cells, (("by", "w", "x"), ("by", "x", "y"), ("by", "y", "w"))), (1, 3)),
            ((cells, ()), (1, 2, 3, 4, 5)),
            (((), ()), (1, 2, 3, 4, 5)),
        ):
            found = [many for many in range(1, 6) if ring_land(TWO, land, many, {"by": 1}) is not None]
            self.assertEqual(tuple(found), able)
            found = [many for many in range(1, 6) if ring_land(TWO, land, many, {"by": -1}) is not None]
            self.assertEqual(tuple(found), able)
            for many in (1, 2, 7):
                self.assertIsNotNone(ring_land(TWO, land, many, {"by": 0}))
                self.assertIsNotNone(ring_land(TWO, land, many, {"by": -3 * many}))
        self.assertEqual(ring_land(TWO, ((), ()), 3, {"by": 1}), ((), ()))

    def test_two_kinds_between_the_same_cells(self):
        world = (("p", "q"), (("by", (("p", "q"), ("q", "p"))), ("to", (("p", "q"), ("q", "p")))), ("a",),
                 (("by", "a", "a"), ("to", "a", "a")), ())
        land = ((("x", "a"), ("y", "a")), (("by", "x", "y"), ("to", "x", "y")))
        back = ((("x", "a"), ("y", "a")), (("by", "x", "y"), ("to", "y", "x")))
        self.assertIsNone(ring_land(world, land, 3, {"by": 1, "to": 2}))
        self.assertEqual(ring_land(world, land, 3, {"by": -1, "to": 2})[0], (("x", "m0"), ("y", "m2")))
        self.assertEqual(ring_land(world, back, 3, {"by": 1, "to": 2})[0], (("x", "m0"), ("y", "m1")))
        self.assertIsNone(ring_land(world, back, 3, {"by": 1, "to": 1}))

    def test_least_ring(self):
        answers = {}
        for dice, world, steps in samples(160):
            most = dice.one([1, 2, 3, 5])
            able = [many for many in range(1, most + 1) if is_sure(ring_by_words(world, many, steps)[0])]
            expected = able[0] if able else None
            self.assertEqual(least_ring(world, steps, most), expected)
            answers[expected] = answers.get(expected, 0) + 1
        self.assertTrue({None, 1, 2} <= set(answers), answers)

    def test_least_ring_at_its_edges(self):
        self.assertEqual([least_ring(THREE, {"by": 1}, most) for most in (1, 2, 3, 4)], [None, None, 3, 3])
        self.assertEqual([least_ring(TWO, {"by": step}, 9) for step in (1, -1, 3, 2, 4)], [2, 2, 2, 4, 8])
        self.assertEqual([least_ring(TWO, {"by": step}, 7) for step in (0, 4)], [None, None])
        self.assertEqual(least_ring(SHORE, {"by": 1}, 1), 1)
        self.assertEqual(least_ring(LONE, {}, 10 ** 39), 1)
        self.assertEqual(least_ring(TWO, {"by": 1}, 10 ** 39), 2)

    def test_layings_of_ring_lands(self):
        lays = 0
        for seed in range(120):
            dice = Dice(seed)
            world, many = ((TWO, 2), (THREE, 3))[seed % 2]
            finer, cover = ring_world(world, many, {"by": 1})
            land = ring_land(world, random_land(world, dice, 6, 6), many, {"by": 1})
            if land is None:
                continue
            ahead = random_ahead(world, land, dice)
            if look(finer, land, ahead) is not None:
                laid = laying_by(finer, land, ahead)
                self.assertTrue(is_laying(world, laid_down(land, cover), ahead, laid))
                lays += 1
        self.assertGreater(lays, 20)

    def test_the_greatest_sizes(self):
        for seed in range(6):
            dice = Dice(seed)
            world = great_world(dice, each_told=seed % 2 == 1)
            steps = random_steps(world, dice)
            finer, cover = ring_world(world, 9, steps)
            self.assertEqual((len(finer[2]), len(finer[3])), (36, 54))
            self.assertTrue(is_cover(finer, world, cover))
            self.assertIn(least_ring(world, steps, 9), (None, *range(1, 10)))
            self.assertEqual(forgets(finer) is None, forgets(world) is None)
            land = greatest_land(finer, dice)
            self.assertTrue(is_land(world, laid_down(land, cover)))
            again = ring_land(world, laid_down(land, cover), 9, steps)
            self.assertTrue(is_land(finer, again))
        land = greatest_land(COAST, Dice(1))
        self.assertIsNotNone(ring_land(COAST, land, 5, {"by": 10, "near": 0}))
