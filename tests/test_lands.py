"""Point 15: lands."""

import itertools
import unittest

from laidanyhow.errors import NoLand
from laidanyhow.forms import is_land
from laidanyhow.lands import beside_each_other, cells_of, checked_land, grid, is_forest, land_fault, mark_of, neighbours
from laidanyhow.lands import part_of, pieces, ring, steps_from, ties_at
from tests.samples import COAST, LONE, STONES, TRIANGLE, TURNS, WHEEL, Dice, greatest_land, land_by_words, nearly
from tests.samples import odd_values, random_land, random_world

LAND = (
    (("u", "any"), ("v", "shore"), ("w", "any")),
    (("by", "u", "v"), ("by", "u", "w"), ("by", "v", "u"), ("near", "w", "u")),
)
# Four pieces: a line, a ring of three with a tail, two cells that are tied twice, a cell alone.
MANY = (
    tuple((name, "m") for name in ("a0", "a1", "a2", "b0", "b1", "b2", "b3", "c0", "c1", "d0")),
    tuple(sorted([
        ("r", "a0", "a1"), ("r", "a2", "a1"), ("r", "b0", "b1"), ("r", "b1", "b2"), ("r", "b0", "b2"),
        ("r", "b3", "b2"), ("r", "c0", "c1"), ("r", "c1", "c0"),
    ])),
)


def line(many, last_is_tied=False):
    """Cells in a row, named so that the order of names is not that of the row; perhaps closed to a ring."""
    names = [f"n{number * 7 % many}x" for number in range(many)] if many % 7 else [f"n{n}x" for n in range(many)]
    ties = [("r", one, other) if place % 2 else ("r", other, one)
            for place, (one, other) in enumerate(zip(names, names[1:]))]
    if last_is_tied:
        ties.append(("r", names[-1], names[0]))
    return names, (tuple(sorted((name, "m") for name in names)), tuple(sorted(ties)))


def joined_by_words(land):
    """A dict from all cells to the sets of cells that hang together with them."""
    groups = {cell: {cell} for cell, mark in land[0]}
    for kind, one, other in land[1]:
        both = groups[one] | groups[other]
        for cell in both:
            groups[cell] = both
    return groups


def forest_by_words(land):
    """Whether no tie closes a ring, the ties being taken one after the other."""
    for place, (kind, one, other) in enumerate(land[1]):
        if other in joined_by_words((land[0], land[1][:place]))[one]:
            return False
    return True


def steps_by_words(land, cells):
    steps = {cell: 0 for cell in cells}
    for _ in land[0]:
        for kind, one, other in land[1]:
            for near, far in ((one, other), (other, one)):
                if near in steps:
                    steps[far] = min(steps.get(far, 99999), steps[near] + 1)
    return steps


class Faults(unittest.TestCase):
    def test_none_of_a_land(self):
        for world, land in ((COAST, LAND), (STONES, TRIANGLE), (STONES, MANY), (LONE, ((), ())), (WHEEL, ((), ()))):
            self.assertIsNone(land_fault(world, land))
            self.assertIs(checked_land(world, land), land)

    def test_form(self):
        for thing in (None, (), [], ((),), ((), (), ()), [(), ()], ([], ()), ((), []), ("", ()), {}, "ab", True, 2):
            self.assertEqual(land_fault(COAST, thing), ("form",))

    def test_cells(self):
        for bad in (None, (), ("w",), ("w", "any", "any"), ["w", "any"], ("W", "any"), ("w", "m"), ("w", None),
                    ("w", ["any"]), (1, "any"), (("w",), "any"), "wa", ("v", "any"), ("u", "any"), ("a", "any"),
                    ("abcdefghijklm", "any")):
            cells = LAND[0][:2] + (bad,)
            self.assertEqual(land_fault(COAST, (cells, LAND[1])), ("cell", 2), bad)
            self.assertEqual(land_fault(COAST, (cells + (None,), ())), ("cell", 2), bad)

    def test_a_cell_twice_with_marks_that_cannot_be_compared(self):
        self.assertEqual(land_fault(COAST, ((("u", "any"), ("u", None)), ())), ("cell", 1))

    def test_ties(self):
        for bad in (None, (), ("by", "u"), ("by", "u", "v", "w"), ["by", "v", "w"], ("far", "u", "v"),
                    ("by", "u", "x"), ("by", "x", "u"), ("by", "v", "v"), ("by", "w", "w"), ("near", "u", "v"),
                    ("near", "v", "u"), ("seldom", "u", "w"), ("by", "w", 1), ("by", ["w"], "u"), (["by"], "w", "u"),
                    ("by", "w", {}), ("by", {}, "w"), "byu", ("by", "u", "w"), ("by", "any", "shore")):
            ties = LAND[1][:3] + (bad,)
            self.assertEqual(land_fault(COAST, (LAND[0], ties)), ("tie", 3), bad)
            self.assertEqual(land_fault(COAST, (LAND[0], ties + (None,))), ("tie", 3), bad)

    def test_order_of_ties(self):
        self.assertEqual(land_fault(COAST, (LAND[0], LAND[1][::-1])), ("tie", 1))
        self.assertEqual(land_fault(COAST, (LAND[0], LAND[1] + LAND[1][-1:])), ("tie", 4))

    def test_first_of_two_faults(self):
        self.assertEqual(land_fault(COAST, (LAND[0] + (None,), (None,))), ("cell", 3))
        self.assertEqual(land_fault(COAST, (LAND[0] + (None,), [])), ("form",))
        self.assertEqual(land_fault(COAST, (LAND[0][::-1], (None,))), ("cell", 1))
        self.assertEqual(land_fault(COAST, (LAND[0][:2], LAND[1])), ("tie", 1))

    def test_any_value(self):
        for world, land in ((COAST, LAND), (STONES, TRIANGLE), (TURNS, ((), ()))):
            for thing in itertools.chain(odd_values(), nearly(land)):
                right = land_by_words(world, thing)
                fault = land_fault(world, thing)
                self.assertEqual(fault is None, right)
                if right:
                    self.assertIs(checked_land(world, thing), thing)
                else:
                    with self.assertRaises(NoLand) as caught:
                        checked_land(world, thing)
                    self.assertEqual(caught.exception.fault, fault)


class Parts(unittest.TestCase):
    def test_cells_and_marks(self):
        self.assertEqual(cells_of(LAND), ("u", "v", "w"))
        self.assertEqual([mark_of(LAND, cell) for cell in ("u", "v", "w")], ["any", "shore", "any"])
        self.assertEqual(cells_of(((), ())), ())

    def test_ties_and_neighbours(self):
        self.assertEqual(ties_at(LAND, "u"), LAND[1])
        self.assertEqual(ties_at(LAND, "v"), (("by", "u", "v"), ("by", "v", "u")))
        self.assertEqual(neighbours(LAND, "u"), ("v", "w"))
        self.assertEqual(neighbours(LAND, "w"), ("u",))
        self.assertEqual([ties_at(MANY, "d0"), neighbours(MANY, "d0")], [(), ()])
        self.assertEqual(neighbours(MANY, "b2"), ("b0", "b1", "b3"))

    def test_a_kind_or_mark_with_the_name_of_a_cell(self):
        world = (("a",), (("x", (("a", "a"),)),), ("x",), (("x", "x", "x"),), ())
        land = ((("x", "x"), ("y", "x"), ("z", "x")), (("x", "y", "z"),))
        self.assertIsNone(land_fault(world, land))
        self.assertEqual([ties_at(land, "x"), neighbours(land, "x"), pieces(land)], [(), (), (("x",), ("y", "z"))])

    def test_pieces(self):
        self.assertEqual(
            pieces(MANY), (("a0", "a1", "a2"), ("b0", "b1", "b2", "b3"), ("c0", "c1"), ("d0",))
        )
        self.assertEqual(pieces(((), ())), ())
        self.assertEqual(pieces((MANY[0][:3], ())), (("a0",), ("a1",), ("a2",)))
        names, land = line(60)
        self.assertEqual(pieces(land), (tuple(sorted(names)),))

    def test_steps_from(self):
        self.assertEqual(steps_from(MANY, ("b3",)), {"b0": 2, "b1": 2, "b2": 1, "b3": 0})
        self.assertEqual(steps_from(MANY, ("a0", "a2", "c1")), {"a0": 0, "a1": 1, "a2": 0, "c0": 1, "c1": 0})
        self.assertEqual([steps_from(MANY, ()), steps_from(MANY, ("d0",))], [{}, {"d0": 0}])
        self.assertEqual(steps_from(((), ()), ()), {})

    def test_steps_of_a_line_and_a_ring(self):
        names, land = line(60)
        self.assertEqual(steps_from(land, (names[0],)), {name: place for place, name in enumerate(names)})
        both = tuple(sorted((names[0], names[59])))
        self.assertEqual(steps_from(land, both), {name: min(place, 59 - place) for place, name in enumerate(names)})
        names, land = line(60, True)
        around = {name: min(place, 60 - place) for place, name in enumerate(names)}
        self.assertEqual(steps_from(land, (names[0],)), around)

    def test_is_forest(self):
        self.assertIs(is_forest(((), ())), True)
        self.assertIs(is_forest((MANY[0], ())), True)
        self.assertIs(is_forest(MANY), False)
        self.assertIs(is_forest(part_of(MANY, ("a0", "a1", "a2", "b0", "b2", "b3", "c1", "d0"))), True)
        self.assertIs(is_forest(part_of(MANY, ("c0", "c1"))), False)
        self.assertIs(is_forest(part_of(MANY, ("a0", "b0", "b1", "b2"))), False)
        self.assertIs(is_forest(line(60)[1]), True)
        self.assertIs(is_forest(line(60, True)[1]), False)
        self.assertIs(is_forest(((("u", "any"), ("w", "any")), (("by", "u", "w"), ("near", "u", "w")))), False)

    def test_random_lands(self):
        for seed in range(200):
            dice = Dice(seed)
            land = random_land(random_world(dice), dice, 9, 8)
            groups = joined_by_words(land)
            self.assertEqual(pieces(land), tuple(sorted({tuple(sorted(group)) for group in groups.values()})))
            self.assertIs(is_forest(land), forest_by_words(land))
            cells = tuple(dice.some(cells_of(land), 3))
            steps = steps_from(land, cells)
            self.assertEqual(steps, steps_by_words(land, cells))
            self.assertEqual(list(steps), sorted(steps))
            for cell in cells_of(land):
                ties = tuple(tie for tie in land[1] if cell in (tie[1], tie[2]))
                self.assertEqual(ties_at(land, cell), ties)
                ends = {end for kind, one, other in ties for end in (one, other)} - {cell}
                self.assertEqual(neighbours(land, cell), tuple(sorted(ends)))


class Made(unittest.TestCase):
    def test_part_of(self):
        self.assertEqual(part_of(LAND, ("u", "w")), ((LAND[0][0], LAND[0][2]), (("by", "u", "w"), ("near", "w", "u"))))
        self.assertEqual(part_of(LAND, ("v", "w")), (LAND[0][1:], ()))
        self.assertEqual([part_of(LAND, ()), part_of(LAND, ("u", "v", "w"))], [((), ()), LAND])

    def test_beside_each_other(self):
        one = part_of(MANY, ("a0", "b0", "b1", "c1"))
        other = part_of(MANY, ("a1", "a2", "c0", "d0"))
        both = beside_each_other(one, other)
        self.assertEqual(both, beside_each_other(other, one))
        self.assertEqual([cell for cell, mark in both[0]], ["a0", "a1", "a2", "b0", "b1", "c0", "c1", "d0"])
        self.assertEqual(both[1], (("r", "a2", "a1"), ("r", "b0", "b1")))
        self.assertTrue(is_land(STONES, both))
        self.assertEqual(beside_each_other(LAND, ((), ())), LAND)
        self.assertEqual(beside_each_other(((), ()), LAND), LAND)

    def test_small_grids(self):
        for right in (None, "r"):
            for down in (None, "r"):
                self.assertEqual(grid(STONES, (), right, down), ((), ()))
                self.assertEqual(grid(STONES, ((),), right, down), ((), ()))
                self.assertEqual(grid(STONES, ((), (), ()), right, down), ((), ()))
                self.assertEqual(grid(STONES, (("m",),), right, down), ((("r0c0", "m"),), ()))

    def test_kinds_each_way(self):
        rows = (("any", "any"), ("any", "any"))
        cells = tuple((name, "any") for name in ("r0c0", "r0c1", "r1c0", "r1c1"))
        right = (("by", "r0c0", "r0c1"), ("by", "r1c0", "r1c1"))
        down = (("near", "r0c0", "r1c0"), ("near", "r0c1", "r1c1"))
        self.assertEqual(grid(COAST, rows, "by", "near"), (cells, right + down))
        self.assertEqual(grid(COAST, rows, "by", None), (cells, right))
        self.assertEqual(grid(COAST, rows, None, "near"), (cells, down))
        self.assertEqual(grid(COAST, rows, None, None), (cells, ()))

    def test_order_of_names(self):
        wide = grid(STONES, (("m",) * 12,), "r", None)
        names = ["r0c0", "r0c1", "r0c10", "r0c11", "r0c2", "r0c3", "r0c4", "r0c5", "r0c6", "r0c7", "r0c8", "r0c9"]
        self.assertEqual(list(cells_of(wide)), names)
        self.assertEqual(len(wide[1]), 11)
        self.assertIn(("r", "r0c9", "r0c10"), wide[1])
        high = grid(STONES, (("m", "m"),) * 12, None, "r")
        self.assertEqual(cells_of(high)[:6], ("r0c0", "r0c1", "r10c0", "r10c1", "r11c0", "r11c1"))
        self.assertEqual(len(high[1]), 22)
        self.assertIn(("r", "r9c1", "r10c1"), high[1])
        for land in (wide, high):
            self.assertTrue(is_land(STONES, land))

    def test_marks_of_a_grid(self):
        world = (("a",), (), ("m", "n"), (), ())
        land = grid(world, (("m", "n"), ("n", "n"), ("m", "m")), None, None)
        self.assertEqual([mark for cell, mark in land[0]], ["m", "n", "n", "n", "m", "m"])

    def test_grid_that_is_no_land(self):
        for rows, right, down, fault in (
            ((("m", "m"),), "r", None, ("tie", 0)),
            ((("m", "n", "n"),), "r", "r", ("tie", 1)),
            ((("m", "n"), ("m", "n")), None, "r", ("tie", 0)),
            ((("m", "n"), ("n", "m"), ("n", "m")), "r", "r", ("tie", 4)),
        ):
            with self.assertRaises(NoLand) as caught:
                grid(TURNS, rows, right, down)
            self.assertEqual(caught.exception.fault, fault)
        with self.assertRaises(NoLand) as caught:
            grid(COAST, (("any", "any"),), "seldom", None)
        self.assertEqual(caught.exception.fault, ("tie", 0))

    def test_rings(self):
        for many in range(2, 13):
            land = ring(STONES, ("m",) * many, "r")
            self.assertTrue(is_land(STONES, land))
            self.assertEqual(cells_of(land), tuple(sorted(f"c{number}" for number in range(many))))
            ties = {("r", f"c{number}", f"c{(number + 1) % many}") for number in range(many)}
            self.assertEqual(set(land[1]), ties)
            self.assertEqual(len(land[1]), many)
            self.assertFalse(is_forest(land))

    def test_marks_of_a_ring(self):
        for many in range(2, 13):
            marks = ("m", "n") * 6
            if many % 2 == 0:
                land = ring(TURNS, marks[:many], "r")
                self.assertTrue(all(mark == marks[int(cell[1:])] for cell, mark in land[0]))
            else:
                with self.assertRaises(NoLand) as caught:
                    ring(TURNS, marks[:many], "r")
                last = sorted(f"c{number}" for number in range(many)).index(f"c{many - 1}")
                self.assertEqual(caught.exception.fault, ("tie", last))

    def test_the_greatest_size(self):
        dice = Dice(5)
        land = greatest_land(STONES, dice)
        self.assertEqual([len(land[0]), len(land[1]), land_fault(STONES, land)], [60, 200, None])
        cells = tuple(dice.some(cells_of(land), 20))
        self.assertEqual(steps_from(land, cells), steps_by_words(land, cells))
        self.assertEqual(part_of(land, cells_of(land)), land)
        half = cells_of(land)[:30]
        rest = cells_of(land)[30:]
        both = beside_each_other(part_of(land, rest), part_of(land, half))
        self.assertEqual(both[0], land[0])
        self.assertEqual(both[1], tuple(tie for tie in land[1] if (tie[1] in half) == (tie[2] in half)))
