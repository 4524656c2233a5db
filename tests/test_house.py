"""Points 5, 8 and 33: a house that lays, tells, takes back, finishes, undoes and does again."""

import unittest

from laidanyhow.errors import Nothing, NoTile, Refused, TileError, Wrong
from laidanyhow.free import is_free
from laidanyhow.guides import is_sure
from laidanyhow.house import House
from laidanyhow.layings import is_laying, least_laying
from laidanyhow.looks import look
from tests.own_house import OwnHouse
from tests.samples import COAST, LONE, STONES, TRIANGLE, TURNS, WORLDS, Dice, all_told, great_world, greatest_land
from tests.samples import land_by_words, nearly, nearly_part, odd_values, random_land, random_world, world_by_words

SHORE = (
    ("m", "s", "w"), (("by", (("m", "m"), ("m", "s"), ("s", "m"), ("s", "s"), ("s", "w"), ("w", "s"), ("w", "w"))),),
    ("a",), (("by", "a", "a"),), (("m", "s"),),
)
LINE = ((("x", "a"), ("y", "a"), ("z", "a")), (("by", "x", "y"), ("by", "y", "z")))
APART = (*STONES[:4], ())
# Three cells of this world in a ring cannot be finished, and nothing can be laid in them.
TWO = (("p", "q"), (("by", (("p", "q"), ("q", "p"))),), ("a",), (("by", "a", "a"),), ())
RING = (LINE[0], (*LINE[1], ("by", "z", "x")))
ONE = (("a",), (("by", (("a", "a"),)),), ("a",), (("by", "a", "a"),), ())


def pairs(many, most_cells=5, most_ties=8):
    """Houses and own houses of the same worlds and lands, and dice for each two."""
    for seed in range(many):
        dice = Dice(seed)
        world = (*WORLDS, SHORE, APART, TWO, ONE)[seed // 2 % 9] if seed % 2 else random_world(dice)
        land = random_land(world, dice, most_cells, most_ties)
        yield dice, world, land, House(world, land), OwnHouse(world, land)


def drawn_act(dice, world, land):
    """An act, an undo or a redo, let or not, as a function of a house."""
    cells = [cell for cell, mark in land[0]]
    choice = dice.below(14 if cells else 4)
    if choice == 0:
        return lambda house: house.finish()
    if choice in (1, 2):
        return lambda house: house.undo()
    if choice == 3:
        return lambda house: house.redo()
    cell, tile, lot = dice.one(cells), dice.one(world[0]), dice.one(all_told(world))
    if choice in (4, 5):
        return lambda house: house.take_back(cell)
    if choice in (6, 7, 8):
        return lambda house: house.tell(cell, lot)
    return lambda house: house.lay(cell, tile)


def outcome(call):
    """What a call returns, or the name and the fields of the error that it raises."""
    try:
        return call()
    except TileError as error:
        return (error.__class__.__name__, vars(error))


class Against(unittest.TestCase):
    def check_state(self, house, own):
        self.assertEqual(list(house.ahead().items()), list(own.ahead().items()))
        self.assertEqual(house.look(), own.look())
        self.assertEqual(list(house.look()), [cell for cell, mark in own.land[0]])
        self.assertEqual((house.acts(), house.log(), house.open_cells()), (own.acts(), own.log(), own.open_cells()))
        for cell, mark in own.land[0]:
            self.assertEqual(house.can(cell), own.can(cell))

    def test_drawn_rows(self):
        answers = {}
        for dice, world, land, house, own in pairs(180):
            for _ in range(dice.one([3, 8, 14])):
                act = drawn_act(dice, world, land)
                expected = outcome(lambda: act(own))
                self.assertEqual(outcome(lambda: act(house)), expected)
                self.check_state(house, own)
                key = expected[0] if expected else None
                answers[key] = answers.get(key, 0) + 1
        self.assertEqual(set(answers), {None, "Refused", "Nothing", "NoTile"})
        self.assertTrue(min(answers.values()) > 2, answers)

    def test_tell_of_all_lots(self):
        world = (("a", "b", "c", "d"), (("r", tuple((one, other) for one in "abcd" for other in "abcd"
                 if abs(ord(one) - ord(other)) < 2)),), ("m",), (("r", "m", "m"),),
                 (("a", "b"), ("a", "c", "d"), ("b", "c")))
        land = ((("x", "m"), ("y", "m")), (("r", "x", "y"),))
        for first in all_told(world):
            for second in all_told(world):
                house, own = House(world, land), OwnHouse(world, land)
                for cell, lot in (("x", first), ("y", second), ("x", second), ("y", ("c",))):
                    expected = outcome(lambda: own.tell(cell, lot))
                    self.assertEqual(outcome(lambda: house.tell(cell, lot)), expected)
                    self.assertEqual(house.ahead(), own.ahead())
                    self.assertEqual(house.can(cell), own.can(cell))


class Acts(unittest.TestCase):
    def test_acts_that_change_nothing_are_acts(self):
        house = House(SHORE, LINE)
        house.tell("x", ("m", "s", "w"))
        house.tell("x", ("m", "s", "w"))
        self.assertEqual((house.acts(), house.ahead()), (2, {"x": ("m", "s", "w")}))
        house.lay("y", "s")
        house.lay("y", "s")
        house.finish()
        house.finish()
        self.assertEqual(house.acts(), 6)
        self.assertEqual(house.log(), "tell x m s w\n" * 2 + "lay y s\n" * 2 + "finish\n" * 2)
        house.undo()
        self.assertEqual((house.acts(), house.open_cells()), (5, ()))
        for _ in range(5):
            house.undo()
        self.assertEqual((house.acts(), house.ahead()), (0, {}))
        for _ in range(6):
            house.redo()
        self.assertEqual((house.acts(), house.ahead()), (6, {"x": ("m",), "y": ("s",), "z": ("m",)}))
        with self.assertRaises(Nothing):
            house.redo()

    def test_all_return_none(self):
        house = House(SHORE, LINE)
        results = [house.lay("x", "m"), house.tell("y", ("m", "s")), house.undo(), house.redo()]
        results += [house.take_back("x"), house.finish(), House(SHORE, LINE).finish()]
        self.assertEqual(results, [None] * 7)

    def test_redo_goes_on_only_if_no_act_was_done_since(self):
        house = House(SHORE, LINE)
        house.lay("x", "m")
        house.lay("z", "w")
        house.undo()
        house.undo()
        house.redo()
        self.assertEqual(house.ahead(), {"x": ("m",)})
        with self.assertRaises(Refused):
            house.lay("y", "w")
        house.redo()
        self.assertEqual(house.ahead(), {"x": ("m",), "z": ("w",)})
        house.undo()
        house.lay("x", "m")
        with self.assertRaises(Nothing):
            house.redo()
        self.assertEqual(house.log(), "lay x m\nlay z w\nundo\nundo\nredo\nredo\nundo\nlay x m\n")

    def test_calls_that_raise_change_nothing(self):
        house = House(TWO, RING)
        house.tell("x", ("p", "q"))
        before = (house.ahead(), house.look(), house.acts(), house.log())
        for call in (
            lambda: house.lay("x", "p"), lambda: house.tell("y", ("p",)), lambda: house.take_back("y"),
            lambda: house.finish(), lambda: house.redo(), lambda: house.lay("q", "p"), lambda: house.tell("x", ["p"]),
        ):
            with self.assertRaises(TileError):
                call()
            self.assertEqual((house.ahead(), house.look(), house.acts(), house.log()), before)
        house.undo()
        self.assertEqual(house.acts(), 0)
        with self.assertRaises(Nothing):
            house.undo()
        house.redo()
        self.assertEqual(house.ahead(), {"x": ("p", "q")})

    def test_a_lot_that_is_told_is_not_widened(self):
        house = House(SHORE, LINE)
        house.tell("x", ("m", "s"))
        for lot in (("m", "s", "w"), ("w",)):
            with self.assertRaises(Refused):
                house.tell("x", lot)
        with self.assertRaises(Refused):
            house.lay("x", "w")
        house.lay("x", "s")
        for call in (lambda: house.lay("x", "m"), lambda: house.tell("x", ("m", "s")), lambda: house.tell("x", ("m",))):
            with self.assertRaises(Refused):
                call()
        house.take_back("x")
        house.tell("x", ("w",))
        self.assertEqual(house.ahead(), {"x": ("w",)})

    def test_no_tile(self):
        house = House(TWO, RING)
        self.assertEqual([house.can(cell) for cell in "xyz"], [()] * 3)
        with self.assertRaises(NoTile) as caught:
            house.finish()
        self.assertEqual(caught.exception.cell, "x")
        land = (tuple(sorted((("a0", "a"), *RING[0]))), RING[1])
        with self.assertRaises(NoTile) as caught:
            House(TWO, land).finish()
        self.assertEqual(caught.exception.cell, "x")

    def test_open_cells(self):
        house = House(ONE, LINE)
        self.assertEqual(house.open_cells(), ("x", "y", "z"))
        self.assertEqual(house.look(), {"x": ("a",), "y": ("a",), "z": ("a",)})
        house.tell("y", ("a",))
        self.assertEqual(house.open_cells(), ("x", "z"))
        house.finish()
        self.assertEqual(house.open_cells(), ())
        house = House(SHORE, LINE)
        house.tell("z", ("m", "s"))
        house.tell("x", ("s",))
        self.assertEqual(house.open_cells(), ("y", "z"))

    def test_lands_without_cells(self):
        house = House(LONE, ((), ()))
        self.assertEqual((house.ahead(), house.look(), house.open_cells(), house.acts()), ({}, {}, (), 0))
        house.finish()
        self.assertEqual((house.ahead(), house.acts(), house.log()), ({}, 1, "finish\n"))
        house.undo()
        self.assertEqual(house.acts(), 0)

    def test_what_is_returned_may_be_changed(self):
        house = House(SHORE, LINE)
        house.lay("x", "m")
        for _ in range(2):
            told, lots = house.ahead(), house.look()
            self.assertEqual((told, lots["z"]), ({"x": ("m",)}, ("m", "s", "w")))
            told["y"] = ("w",)
            told["x"] = ("w",)
            lots["z"] = ("w",)
            del lots["x"]
        self.assertEqual(house.can("x"), ("m",))
        house.undo()
        house.ahead()["x"] = ("w",)
        house.redo()
        self.assertEqual(house.ahead(), {"x": ("m",)})


class WrongValues(unittest.TestCase):
    def check(self, place, call):
        with self.assertRaises(Wrong) as caught:
            call()
        self.assertEqual(caught.exception.place, place)

    def test_house(self):
        for thing in (*odd_values(), *nearly(STONES), House(STONES, TRIANGLE)):
            if not world_by_words(thing):
                self.check(0, lambda: House(thing, TRIANGLE))
                self.check(0, lambda: House(thing, None))
        for thing in (*odd_values(), *nearly(TRIANGLE), House(STONES, TRIANGLE)):
            if not land_by_words(STONES, thing):
                self.check(1, lambda: House(STONES, thing))
        self.check(1, lambda: House(TURNS, TRIANGLE))
        House(STONES, ((), ()))

    def test_methods(self):
        house = House(STONES, TRIANGLE)
        house.lay("x", "s")
        log = house.log()
        values = [value for value in (*odd_values(), *nearly_part("y"), house) if value != "x"]
        for value in values:
            for call in (
                lambda: house.lay(value, "s"), lambda: house.tell(value, ("s",)), lambda: house.take_back(value),
                lambda: house.can(value), lambda: house.lay(value, None), lambda: house.tell(value, [value]),
            ):
                self.check(0, call)
        for value in (*odd_values(), *nearly_part("q"), ("s",), house):
            if value not in ("a", "s"):
                self.check(1, lambda: house.lay("x", value))
        for value in (*odd_values(), *nearly(("a", "b")), ("a", "s"), ("b", "a"), ("s", "s"), (), house):
            if value not in (("a",), ("b",), ("a", "b")):
                self.check(1, lambda: house.tell("y", value))
        self.assertEqual(house.log(), log)

    def test_ahead_of_all_else(self):
        house = House(TWO, RING)
        self.check(1, lambda: house.lay("x", "z"))
        self.check(1, lambda: house.tell("x", ("p", "z")))
        with self.assertRaises(Refused):
            house.lay("x", "p")
        self.check(0, lambda: house.take_back("q"))
        with self.assertRaises(Nothing):
            house.take_back("x")


class Twins(unittest.TestCase):
    def test_twins_go_on_by_themselves(self):
        for dice, world, land, house, own in pairs(60):
            for _ in range(6):
                act = drawn_act(dice, world, land)
                self.assertEqual(outcome(lambda: act(house)), outcome(lambda: act(own)))
            twin = house.twin()
            self.assertTrue(twin == house and not twin != house)
            state = (house.ahead(), house.acts(), house.log())
            for _ in range(6):
                act = drawn_act(dice, world, land)
                self.assertEqual(outcome(lambda: act(twin)), outcome(lambda: act(own)))
                self.assertEqual((twin.ahead(), twin.acts(), twin.log()), (own.ahead(), own.acts(), own.log()))
                self.assertEqual((house.ahead(), house.acts(), house.log()), state)
            self.assertIs(twin == house, twin.log() == house.log())

    def test_undo_and_redo_of_twins(self):
        house = House(SHORE, LINE)
        for act in (lambda: house.lay("x", "m"), lambda: house.lay("y", "s"), lambda: house.lay("z", "w")):
            act()
        house.undo()
        house.undo()
        twin = house.twin()
        twin.redo()
        twin.redo()
        self.assertEqual((twin.acts(), house.acts()), (3, 1))
        house.redo()
        house.lay("z", "m")
        self.assertEqual((twin.ahead()["z"], house.ahead()["z"]), (("w",), ("m",)))
        for _ in range(3):
            twin.undo()
            house.undo()
        self.assertEqual((twin.ahead(), house.ahead()), ({}, {}))
        with self.assertRaises(Nothing):
            twin.undo()

    def test_equal_and_unlike(self):
        house, other = House(SHORE, LINE), House(SHORE, LINE)
        self.assertTrue(house == other and not house != other and house == house)
        house.lay("x", "m")
        self.assertTrue(house != other and not house == other)
        other.tell("x", ("m",))
        self.assertEqual(house.ahead(), other.ahead())
        self.assertTrue(house != other)
        house.undo()
        other.undo()
        self.assertTrue(house != other)
        self.assertIs(House(SHORE, LINE) == House(SHORE, ((), ())), False)
        self.assertIs(House(SHORE, LINE) == House((*SHORE[:4], ()), LINE), False)
        self.assertIs(House(SHORE, LINE) == House(SHORE, LINE), True)
        self.assertIs(House(SHORE, LINE) != House(SHORE, LINE), False)
        for value in (*odd_values(), SHORE, LINE, house.log(), house.ahead()):
            self.assertIs(house == value, False)
            self.assertIs(house != value, True)
            self.assertIs(value == house, False)


class Guarantees(unittest.TestCase):
    def test_in_a_free_world_lay_is_never_refused(self):
        laid = 0
        for seed in range(300):
            dice = Dice(seed)
            world = random_world(dice)
            if not is_free(world):
                continue
            land = random_land(world, dice, 6, 12)
            house = House(world, land)
            for cell in dice.mixed([cell for cell, mark in land[0]]):
                lots = house.look()
                self.assertEqual(house.can(cell), lots[cell])
                house.lay(cell, dice.one(lots[cell]))
                laid += 1
            self.assertTrue(is_laying(world, land, {}, {cell: lot[0] for cell, lot in house.ahead().items()}))
        self.assertGreater(laid, 300)

    def test_in_a_sure_world_finish_never_raises(self):
        finished = 0
        for seed in range(240):
            dice = Dice(seed)
            world = (SHORE, APART, TURNS)[seed % 3] if seed < 90 else random_world(dice)
            if not is_sure(world):
                continue
            land = random_land(world, dice, 6, 10)
            house = House(world, land)
            for _ in range(dice.below(5)):
                outcome(lambda: drawn_act(dice, world, land)(house))
            told = house.ahead()
            house.finish()
            self.assertEqual({cell: lot[0] for cell, lot in house.ahead().items()}, least_laying(world, land, told))
            finished += 1
        self.assertGreater(finished, 100)

    def test_the_greatest_sizes(self):
        for seed in range(6):
            dice = Dice(seed)
            world = (SHORE, COAST, STONES, great_world(dice), great_world(dice, each_told=True), TURNS)[seed]
            land = greatest_land(world, dice)
            house = House(world, land)
            for cell, mark in dice.mixed(land[0])[:20]:
                able = house.can(cell)
                told = house.ahead()
                expected = [tile for tile in world[0] if look(world, land, {**told, cell: (tile,)}) is not None]
                self.assertEqual(able, tuple(expected))
                if able:
                    house.lay(cell, dice.one(able))
            outcome(house.finish)
            self.assertTrue(house.twin() == house)
            for _ in range(house.acts()):
                house.undo()
            self.assertEqual(house.ahead(), {})
