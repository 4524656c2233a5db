"""Point 13: worlds."""

import itertools
import unittest

from laidanyhow.errors import Nothing, NoWorld
from laidanyhow.forms import is_world
from laidanyhow.worlds import checked_world, common_tiles, couples_of, fits, handed, handed_back, holds, kinds_of
from laidanyhow.worlds import partners, partners_ahead, renamed_world, told_lots, trimmed_world, turned_world
from laidanyhow.worlds import world_fault
from tests.samples import COAST, STONES, WHEEL, WORLDS, Dice, all_told, nearly, odd_values, random_world
from tests.samples import world_by_words

ALL = (("a", "a"), ("a", "b"), ("b", "a"), ("b", "b"), ("b", "c"), ("c", "b"), ("c", "c"))
BASE = (
    ("a", "b", "c"), (("k0", ALL), ("k1", ALL), ("k2", ALL)), ("m", "n"), (("k0", "m", "n"), ("k1", "n", "m")),
    (("a", "b"), ("b", "c")),
)


def with_part(place, part):
    return lambda world: world[:place] + (part,) + world[place + 1:]


def with_table(place, row):
    return lambda world: world[:1] + (world[1][:place] + (row,) + world[1][place + 1:],) + world[2:]


# Each fault with a change that brings it about and no earlier one, in the order of the document.
CHANGES = [
    (("tiles",), with_part(0, ())),
    (("tile", 1), with_part(0, ("a", "B", "c"))),
    (("tile", 2), with_part(0, ("a", "c", "b"))),
    (("table", 2), with_table(2, ("k1", ALL))),
    (("couple", 1, 2), with_table(1, ("k1", ALL[:2] + ALL[1:2] + ALL[3:]))),
    (("marks",), with_part(2, ())),
    (("mark", 1), with_part(2, ("n", "m"))),
    (("tie", 0), with_part(3, (("k", "m", "n"), ("k1", "n", "m")))),
    (("tie", 1), with_part(3, (("k0", "m", "n"), ("k0", "m", "n")))),
    (("told", 1), with_part(4, (("a", "b"), ("c", "b")))),
    (("partner", "k0", "c"), with_table(0, ("k0", ALL[:5]))),
]


class Faults(unittest.TestCase):
    def test_none_of_a_world(self):
        for world in (*WORLDS, BASE):
            self.assertIsNone(world_fault(world))
            self.assertIs(checked_world(world), world)

    def test_each_fault(self):
        for fault, change in CHANGES:
            self.assertEqual(world_fault(change(BASE)), fault)
            with self.assertRaises(NoWorld) as caught:
                checked_world(change(BASE))
            self.assertEqual(caught.exception.fault, fault)

    def test_first_of_two_faults(self):
        for (fault, change), (later, other) in itertools.combinations(CHANGES, 2):
            self.assertEqual(world_fault(change(other(BASE))), fault, (fault, later))

    def test_first_of_all_faults(self):
        world = BASE
        for fault, change in reversed(CHANGES):
            world = change(world)
            self.assertEqual(world_fault(world), fault)
        self.assertEqual(world_fault(list(world)), ("form",))

    def test_form(self):
        for thing in (None, [], (), BASE[:4], BASE + ((),), list(BASE), "abcde", {}, 5, True):
            self.assertEqual(world_fault(thing), ("form",))
        for place in range(5):
            for part in (None, list(BASE[place]), "a", {}, 1):
                self.assertEqual(world_fault(with_part(place, part)(BASE)), ("form",))

    def test_tiles_and_marks(self):
        for place, word in ((0, "tile"), (2, "mark")):
            for bad in ("", "A", "2a", "abcdefghijklm", 1, None, True, ("a",), ["a"], "a b"):
                self.assertEqual(world_fault(with_part(place, (bad,))(BASE)), (word, 0))
                self.assertEqual(world_fault(with_part(place, ("a", "b", bad, "A"))(BASE)), (word, 2))
            self.assertEqual(world_fault(with_part(place, ("a", "b", "b"))(BASE)), (word, 2))
            self.assertEqual(world_fault(with_part(place, ("b", "a", 1))(BASE)), (word, 1))

    def test_tables(self):
        for row in (None, (), ("k1",), ("k1", ALL, ()), ["k1", ALL], ("K", ALL), ("k1", list(ALL)), ("k1", None),
                    (1, ())):
            self.assertEqual(world_fault(with_table(1, row)(BASE)), ("table", 1))
        self.assertEqual(world_fault(with_table(1, ("k0", ()))(BASE)), ("table", 1))
        self.assertEqual(world_fault(with_table(0, ("k1", ()))(BASE)), ("table", 1))
        self.assertEqual(world_fault(with_table(0, ("k9", (None, [])))(BASE)), ("table", 1))

    def test_a_kind_twice_with_couples_that_cannot_be_compared(self):
        self.assertEqual(world_fault((("a",), (("k", (1,)), ("k", (None,))), ("m",), (), ())), ("table", 1))

    def test_couples(self):
        for bad in (None, (), ("a",), ("a", "b", "c"), ["a", "b"], ("a", "d"), ("d", "a"), ("a", 1), ("a", ["b"]),
                    "ab"):
            self.assertEqual(world_fault(with_table(1, ("k1", (bad,)))(BASE)), ("couple", 1, 0))
            self.assertEqual(world_fault(with_table(2, ("k2", ALL + (bad,)))(BASE)), ("couple", 2, 7))
        self.assertEqual(world_fault(with_table(2, ("k2", (("b", "a"), ("a", "b"))))(BASE)), ("couple", 2, 1))
        self.assertEqual(world_fault(with_table(2, ("k2", (("b", "b"), ("b", "a"))))(BASE)), ("couple", 2, 1))

    def test_first_of_two_couples(self):
        world = with_table(0, ("k0", ALL + (None,)))(with_table(1, ("k1", (None,)))(BASE))
        self.assertEqual(world_fault(world), ("couple", 0, 7))

    def test_ties(self):
        for bad in (None, (), ("k0", "m"), ("k0", "m", "m", "m"), ["k0", "m", "m"], ("m", "k0", "m"), ("k0", "m", "a"),
                    ("k0", 1, "m"), (["k0"], "m", "m"), "k0mn"):
            self.assertEqual(world_fault(with_part(3, (("k0", "m", "m"), bad))(BASE)), ("tie", 1))
        self.assertEqual(world_fault(with_part(3, (("k1", "m", "m"), ("k0", "n", "n")))(BASE)), ("tie", 1))

    def test_told(self):
        for bad in (None, (), ("d",), ("b", "a"), ("a", "a"), ["a"], "a", ("a", 1), (["a"],)):
            self.assertEqual(world_fault(with_part(4, (("a",), bad))(BASE)), ("told", 1))
        self.assertEqual(world_fault(with_part(4, (("b",), ("a", "b")))(BASE)), ("told", 1))
        self.assertEqual(world_fault(with_part(4, (("b",), ("b",)))(BASE)), ("told", 1))

    def test_partners(self):
        for couples, tile in (((), "a"), (ALL[:3], "c"), (ALL[2:], "a"), (ALL[3:], "a"), (ALL[:5], "c"),
                              ((("a", "a"), ("b", "b"), ("c", "a")), "c"),
                              ((("a", "b"), ("b", "c"), ("c", "b")), "a"),
                              ((("a", "b"), ("b", "c"), ("c", "a")), None)):
            fault = None if tile is None else ("partner", "k0", tile)
            self.assertEqual(world_fault(with_table(0, ("k0", couples))(BASE)), fault)
            self.assertIsNone(world_fault(with_table(2, ("k2", couples))(BASE)))

    def test_least_partner(self):
        world = with_table(0, ("k0", ALL[:5]))(with_table(1, ("k1", ()))(BASE))
        self.assertEqual(world_fault(world), ("partner", "k0", "c"))
        tables, ties = tuple((kind, ()) for kind in "bcdefgh"), tuple((kind, "m", "m") for kind in "cdefgh")
        unlike = (("a",), tables, ("m",), ties, ())
        self.assertEqual(world_fault(unlike), ("partner", "c", "a"))
        turned = with_part(3, (("k1", "m", "m"),))(world)
        self.assertEqual(world_fault(turned), ("partner", "k1", "a"))
        self.assertIsNone(world_fault(with_part(3, ())(world)))

    def test_any_value(self):
        for thing in odd_values():
            self.assertEqual(world_fault(thing) is None, world_by_words(thing))
        for world in WORLDS:
            for thing in nearly(world):
                fault = world_fault(thing)
                self.assertEqual(fault is None, world_by_words(thing))
                self.assertIn(type(fault), (tuple, type(None)))


class Parts(unittest.TestCase):
    def test_kinds_and_couples(self):
        self.assertEqual(kinds_of(COAST), ("by", "near", "seldom"))
        self.assertEqual(couples_of(COAST, "seldom"), (("sand", "sand"),))
        self.assertEqual(couples_of(COAST, "near"), COAST[1][1][1])
        self.assertEqual(kinds_of((("a",), (), ("m",), (), ())), ())
        self.assertEqual(couples_of((("a",), (("k", ()),), ("m",), (), ()), "k"), ())

    def test_partners(self):
        self.assertEqual(partners(COAST, "near", "water"), ("meadow", "sand"))
        self.assertEqual(partners_ahead(COAST, "near", "water"), ("sand",))
        self.assertEqual(partners(COAST, "seldom", "water"), ())
        self.assertEqual(partners_ahead(COAST, "seldom", "meadow"), ())
        for seed in range(60):
            world = random_world(Dice(seed))
            for kind, couples in world[1]:
                for tile in world[0]:
                    self.assertEqual(partners(world, kind, tile), tuple(o for o in world[0] if (tile, o) in couples))
                    ahead = tuple(one for one in world[0] if (one, tile) in couples)
                    self.assertEqual(partners_ahead(world, kind, tile), ahead)

    def test_fits(self):
        for one in COAST[0]:
            for other in COAST[0]:
                for kind, couples in COAST[1]:
                    self.assertIs(fits(COAST, kind, one, other), (one, other) in couples)

    def test_told_lots(self):
        for seed in range(150):
            world = random_world(Dice(seed))
            self.assertEqual(told_lots(world), tuple(all_told(world)))
        for world in WORLDS:
            self.assertEqual(told_lots(world), tuple(all_told(world)))

    def test_told_lots_of_three_that_meet(self):
        world = (("a", "b", "c", "d"), (), ("m",), (), (("a", "b", "c"), ("a", "b", "d"), ("b", "c", "d")))
        self.assertEqual(told_lots(world), (
            ("a",), ("a", "b"), ("a", "b", "c"), ("a", "b", "c", "d"), ("a", "b", "d"), ("b",), ("b", "c"),
            ("b", "c", "d"), ("b", "d"), ("c",), ("d",),
        ))

    def test_common_tiles(self):
        self.assertEqual(common_tiles(("a", "c", "d"), ("b", "c", "d", "e")), ("c", "d"))
        self.assertEqual(common_tiles(("a",), ("b",)), ())
        self.assertEqual([common_tiles((), ("a",)), common_tiles(("a",), ()), common_tiles((), ())], [(), (), ()])

    def lots(self, world):
        for many in range(1, len(world[0]) + 1):
            yield from itertools.combinations(world[0], many)

    def test_handed(self):
        for seed in range(80):
            world = random_world(Dice(seed))
            for tie in world[3]:
                couples = dict(world[1])[tie[0]]
                for lot in self.lots(world):
                    on = tuple(sorted({other for one, other in couples if one in lot}))
                    back = tuple(sorted({one for one, other in couples if other in lot}))
                    self.assertEqual(handed(world, tie, lot), on)
                    self.assertEqual(handed_back(world, tie, lot), back)
                    self.assertTrue(on and back)

    def test_handed_on_is_not_handed_back(self):
        self.assertEqual(handed(WHEEL, ("r", "m", "n"), ("a",)), ("b",))
        self.assertEqual(handed_back(WHEEL, ("r", "m", "n"), ("a",)), ("c",))

    def test_holds(self):
        for seed in range(60):
            world = random_world(Dice(seed))
            for kind in sorted({tie[0] for tie in world[3]}):
                couples = dict(world[1])[kind]
                for one in self.lots(world):
                    for other in self.lots(world):
                        held = all(any((a, b) in couples for b in other) for a in one)
                        held = held and all(any((a, b) in couples for a in one) for b in other)
                        self.assertIs(holds(world, kind, one, other), held)

    def test_holds_both_sides(self):
        self.assertFalse(holds(COAST, "by", ("meadow", "water"), ("meadow",)))
        self.assertFalse(holds(COAST, "by", ("meadow",), ("meadow", "water")))
        self.assertTrue(holds(COAST, "by", ("meadow", "water"), ("meadow", "water")))


class Made(unittest.TestCase):
    def test_turned_world(self):
        for seed in range(80):
            world = random_world(Dice(seed))
            turned = turned_world(world)
            self.assertTrue(is_world(turned))
            self.assertEqual(turned_world(turned), world)
            self.assertEqual([turned[0], turned[2], turned[4]], [world[0], world[2], world[4]])
            self.assertEqual(set(turned[3]), {(kind, other, one) for kind, one, other in world[3]})
            for kind, couples in world[1]:
                self.assertEqual(set(couples_of(turned, kind)), {(other, one) for one, other in couples})

    def test_renamed_world(self):
        names = {"water": "a", "meadow": "w", "sand": "m"}
        renamed = renamed_world(COAST, names)
        self.assertEqual(renamed[0], ("a", "m", "w"))
        self.assertEqual(renamed[4], (("a", "m"), ("m", "w")))
        self.assertEqual(couples_of(renamed, "near"), (("a", "m"), ("a", "w"), ("m", "a"), ("w", "m")))
        self.assertEqual(renamed[2:4], COAST[2:4])
        self.assertTrue(is_world(renamed))
        self.assertEqual(renamed_world(renamed, {new: old for old, new in names.items()}), COAST)

    def test_renamed_by_its_own_names(self):
        self.assertEqual(renamed_world(STONES, {"a": "b", "b": "a", "s": "s"}), STONES)
        self.assertEqual(renamed_world(WHEEL, {"a": "b", "b": "c", "c": "a"})[4], (("a", "c"), ("b", "c")))


class Trimmed(unittest.TestCase):
    def greatest(self, thing):
        """The greatest lot with which the world is one, found by trying all of them; all tiles of others lie in it."""
        able = []
        for many in range(1, len(thing[0]) + 1):
            for lot in itertools.combinations(thing[0], many):
                tables = {k: [row for row in couples if set(row) <= set(lot)] for k, couples in thing[1]}
                if all({one for one, _ in tables[tie[0]]} == {other for _, other in tables[tie[0]]} == set(lot)
                       for tie in thing[3]):
                    able.append(lot)
        return max(able, key=len, default=())

    def test_worlds_stay(self):
        for world in WORLDS:
            self.assertEqual(trimmed_world(world), world)
        for seed in range(40):
            world = random_world(Dice(seed))
            self.assertEqual(trimmed_world(world), world)

    def test_one_after_the_other(self):
        tiles = ("a", "b", "c", "d")
        row = (("a", "a"), ("a", "b"), ("b", "c"), ("c", "d"))
        thing = (tiles, (("k", row), ("l", row)), ("m",), (("k", "m", "m"),), (("a", "d"), ("b", "c"), ("c", "d")))
        same = (("a",), (("k", (("a", "a"),)), ("l", (("a", "a"),))), ("m",), (("k", "m", "m"),), (("a",),))
        self.assertEqual(trimmed_world(thing), same)

    def test_by_two_kinds_in_turns(self):
        tiles = ("a", "b", "c", "d")
        k = (("a", "a"), ("b", "b"), ("c", "b"), ("b", "c"), ("d", "a"))
        l = (("a", "a"), ("b", "d"), ("c", "c"), ("d", "b"))
        thing = (tiles, (("k", tuple(sorted(k))), ("l", l)), ("m",), (("k", "m", "m"), ("l", "m", "m")), ())
        self.assertEqual(trimmed_world(thing)[0], ("a",))

    def test_lots_that_become_equal_or_empty(self):
        couples = (("a", "a"), ("b", "b"), ("b", "c"))
        thing = (("a", "b", "c"), (("k", couples),), ("m",), (("k", "m", "m"),),
                 (("a", "b"), ("a", "b", "c"), ("b",), ("b", "c"), ("c",)))
        self.assertEqual(trimmed_world(thing)[4], (("a", "b"), ("b",)))

    def test_nothing_left(self):
        for couples in ((), (("a", "b"),), (("a", "b"), ("b", "c"), ("c", "d"))):
            with self.assertRaises(Nothing):
                trimmed_world((("a", "b", "c", "d"), (("k", couples),), ("m",), (("k", "m", "m"),), (("a",),)))

    def test_random(self):
        for seed in range(300):
            dice = Dice(seed)
            world = random_world(dice)
            tables = tuple((kind, tuple(dice.some(couples, 3) + [])) for kind, couples in world[1])
            thing = (world[0], tables, world[2], world[3], world[4])
            lot = self.greatest(thing)
            if lot == ():
                with self.assertRaises(Nothing):
                    trimmed_world(thing)
                continue
            trimmed = trimmed_world(thing)
            self.assertIsNone(world_fault(trimmed))
            self.assertEqual(trimmed[0], lot)
            self.assertEqual(trimmed[2:4], thing[2:4])
            for kind, couples in thing[1]:
                self.assertEqual(couples_of(trimmed, kind), tuple(row for row in couples if set(row) <= set(lot)))
            lots = {tuple(tile for tile in one if tile in lot) for one in thing[4]} - {()}
            self.assertEqual(trimmed[4], tuple(sorted(lots)))
