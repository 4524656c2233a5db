"""Point 36: a desk, line by line, against a House and the functions that it names."""

import unittest

from laidanyhow.arising import arising
from laidanyhow.clashes import least_clash
from laidanyhow.desk import Desk
from laidanyhow.errors import NoCommand, NoGuide, NoText, NoWorld, TileError, Wrong
from laidanyhow.free import bound_pick, is_free
from laidanyhow.guides import guide, is_sure, laying_by
from laidanyhow.house import House
from laidanyhow.landtexts import land_text
from laidanyhow.rounds import forgets
from laidanyhow.tried import must_stand
from laidanyhow.worldtexts import world_text
from tests.samples import COAST, LONE, STONES, TRIANGLE, TURNS, WORLDS, Dice, all_told, great_world, greatest_land
from tests.samples import odd_values, random_land, random_world
from tests.test_house import APART, LINE, RING, SHORE, TWO

CHANGES = ("lay", "tell", "back", "finish", "undo", "redo")
PLAIN = ("look", "ahead", "open", "must", "one", "log", "sure", "free", "forgets", "bound")


def desk_of(world, land):
    return Desk(world_text(world), land_text(land))


def worlds(many):
    for seed in range(many):
        dice = Dice(seed)
        world = (*WORLDS, SHORE, APART, TWO)[seed // 2 % 8] if seed % 2 else random_world(dice)
        yield dice, world, random_land(world, dice, 5, 8)


def lot_lines(lots):
    return [" ".join((cell, *lot)) for cell, lot in sorted(lots.items())]


def tile_lines(tiles):
    return [f"{cell} {tile}" for cell, tile in sorted(tiles.items())]


def drawn_words(dice, world, land):
    """Words of a line that may be any command, in the form that a LOG has, or one that is none."""
    cells = [cell for cell, mark in land[0]] or ["x"]
    lots = [*all_told(world), tuple(dice.some(world[0])), world[0][:1] * 2]
    sort = dice.one([*CHANGES, *CHANGES, *PLAIN, "can", "can", "why", "why", "guide", "guide", "zz"])
    if sort in ("lay", "why"):
        return [sort, dice.one(cells), dice.one(world[0])]
    if sort == "tell":
        return [sort, dice.one(cells), *dice.one(lots)]
    if sort in ("back", "can"):
        return [sort, dice.one(cells)]
    if sort == "guide":
        return [sort, dice.one(world[2]), *dice.one(lots)]
    return [sort]


def is_command_by_words(world, land, words):
    cells = [cell for cell, mark in land[0]]
    sort, rest = (words[0], words[1:]) if words else ("", [])
    if sort in PLAIN or sort in ("finish", "undo", "redo"):
        return rest == []
    if sort in ("lay", "why"):
        return len(rest) == 2 and rest[0] in cells and rest[1] in world[0]
    if sort in ("back", "can"):
        return len(rest) == 1 and rest[0] in cells
    lot = tuple(sorted(rest[1:]))
    if sort == "tell":
        return len(rest) > 1 and rest[0] in cells and lot in all_told(world)
    if sort == "guide":
        return len(rest) > 1 and rest[0] in world[2] and lot in arising(world)[rest[0]]
    return False


def change_by_words(house, words):
    sort, rest = words[0], words[1:]
    try:
        if sort == "lay":
            house.lay(*rest)
        elif sort == "tell":
            house.tell(rest[0], tuple(sorted(rest[1:])))
        elif sort == "back":
            house.take_back(*rest)
        else:
            getattr(house, sort)()
    except TileError as error:
        return [f"refused {error.__class__.__name__}"]
    return ["done"]


def answer_by_words(world, land, house, words):
    """What a question answers."""
    sort, rest = words[0], words[1:]
    told = house.ahead()
    if sort == "guide" or sort == "one":
        try:
            tiles = guide(world) if sort == "guide" else laying_by(world, land, told)
        except NoGuide:
            return ["refused NoGuide"]
        return tile_lines(tiles) if sort == "one" else [tiles[rest[0], tuple(sorted(rest[1:]))]]
    if sort == "why":
        return lot_lines(least_clash(world, land, {**told, rest[0]: (rest[1],)}) or {})
    if sort == "bound":
        found = bound_pick(world)
        return [] if found is None else [" ".join((found[0][0], found[1], *found[0][1]))]
    if sort == "forgets":
        return ["never" if forgets(world) is None else str(forgets(world))]
    return {
        "look": lambda: lot_lines(house.look()), "ahead": lambda: lot_lines(told),
        "can": lambda: [" ".join(house.can(rest[0]))], "open": lambda: list(house.open_cells()),
        "must": lambda: tile_lines(must_stand(world, land, told)), "log": lambda: house.log().splitlines(),
        "sure": lambda: ["yes" if is_sure(world) else "no"], "free": lambda: ["yes" if is_free(world) else "no"],
    }[sort]()


class Lines(unittest.TestCase):
    def check(self, desk, world, land, house, words, line):
        """Execute a line that has these words; return what it answers, None if it is no command."""
        if not is_command_by_words(world, land, words):
            before = house.log()
            with self.assertRaises(NoCommand) as caught:
                desk.execute(line)
            self.assertIs(caught.exception.line, line)
            self.assertEqual(desk.house().log(), before)
            return None
        expected = change_by_words(house, words) if words[0] in CHANGES else answer_by_words(world, land, house, words)
        found = desk.execute(line)
        self.assertEqual(found, expected, line)
        self.assertIs(type(found), list)
        self.assertTrue(desk.house() == house)
        return found

    def test_drawn_lines(self):
        answers = {}
        for dice, world, land in worlds(150):
            desk, house = desk_of(world, land), House(world, land)
            for _ in range(14):
                words = drawn_words(dice, world, land)
                shown = words[:2] + dice.mixed(words[2:]) if words[0] in ("tell", "guide") else words
                line = (" " * dice.below(3)) + (" " * (1 + dice.below(2))).join(shown) + " " * dice.below(2)
                found = self.check(desk, world, land, house, words, line)
                key = (words[0], found[0] if found and words[0] in CHANGES else type(found))
                answers[key] = answers.get(key, 0) + 1
        for sort in (*CHANGES, *PLAIN, "can", "why", "guide"):
            self.assertTrue(any(key[0] == sort and key[1] is not type(None) for key in answers), sort)
        wanted = {
            ("lay", "refused Refused"), ("tell", "refused Refused"), ("back", "refused Nothing"), ("tell", type(None)),
            ("undo", "refused Nothing"), ("redo", "refused Nothing"), ("finish", "refused NoTile"),
            ("guide", type(None)),
        }
        self.assertLessEqual(wanted | {(sort, "done") for sort in CHANGES}, set(answers))

    def test_lines_that_are_none(self):
        desk = desk_of(SHORE, LINE)
        desk.execute("lay x m")
        log = desk.house().log()
        for line in (
            "", " ", "   ", "lay", "lay x", "lay x m m", "lay x m s", "lay q m", "lay x q", "lay m x", "lay x a",
            "Lay x m", "lay\tx m", "lay x m;", "tell", "tell x", "tell x m m", "tell x q", "tell x m q", "tell q m",
            "tell x s w", "tell x m w", "tell x m s w w", "back", "back x x", "back q", "back m", "finish x",
            "undo 1", "redo x", "undo undo", "look x", "ahead x", "can", "can q", "can x y", "can x m", "open x",
            "must x", "one x", "why", "why x", "why x m s", "why q m", "why x q", "why m x", "log x", "sure x",
            "free x", "forgets x", "bound x", "guide", "guide a", "guide a q", "guide a m m", "guide x m", "guide m a",
            "guide a m w", "guide b m", "take_back x", "acts", "twin", "house", "# remark", "lay x m # remark",
            "look # all", "lays x m", "finish\r", "\\", "~" * 3000, "lay " * 700, "guide a m s w w", "none",
        ):
            with self.assertRaises(NoCommand) as caught:
                desk.execute(line)
            self.assertIs(caught.exception.line, line)
            self.assertEqual(desk.house().log(), log)

    def test_blanks(self):
        desk = desk_of(SHORE, LINE)
        self.assertEqual(desk.execute("   lay   x    m  "), ["done"])
        self.assertEqual(desk.execute(" tell z   s  m "), ["done"])
        self.assertEqual(desk.execute("log "), ["lay x m", "tell z m s"])
        self.assertEqual(desk.execute("  can  y"), ["m s"])
        self.assertEqual(desk.execute(" guide  a   w  s "), ["s"])
        self.assertEqual(desk.execute(" why  y   w"), ["x m", "y w"])

    def test_can_of_no_tile(self):
        desk = desk_of(TWO, RING)
        self.assertEqual(desk.execute("can x"), [""])
        self.assertEqual(desk.execute("look"), ["x p q", "y p q", "z p q"])
        self.assertEqual(desk.execute("must"), [])
        self.assertEqual([desk.execute(line) for line in ("finish", "one", "guide a p")],
                         [["refused NoTile"], ["refused NoGuide"], ["refused NoGuide"]])
        self.assertEqual([desk.execute(line) for line in ("sure", "free", "forgets")], [["no"], ["no"], ["never"]])
        self.assertEqual(desk.execute("why y p"), ["y p"])
        self.assertEqual(desk.execute("bound"), ["a p p"])

    def test_why_in_the_place_of_what_is_told(self):
        desk = desk_of(SHORE, LINE)
        for line in ("lay x m", "lay z w", "lay y s"):
            self.assertEqual(desk.execute(line), ["done"])
        for line, answer in (
            ("why y s", []), ("why y w", ["x m", "y w"]), ("why y m", ["y m", "z w"]), ("why x w", []),
            ("why x s", []), ("why z m", []),
        ):
            self.assertEqual(desk.execute(line), answer)
        self.assertEqual(desk.execute("log"), ["lay x m", "lay z w", "lay y s"])

    def test_lands_without_cells(self):
        desk = desk_of(LONE, ((), ()))
        for line in ("look", "ahead", "open", "must", "one", "log", "bound"):
            self.assertEqual(desk.execute(line), [])
        self.assertEqual([desk.execute(line) for line in ("finish", "undo", "undo", "redo", "log")],
                         [["done"], ["done"], ["refused Nothing"], ["done"], ["finish", "undo", "redo"]])
        self.assertEqual([desk.execute(line) for line in ("sure", "free", "forgets", "guide m a")],
                         [["yes"], ["yes"], ["1"], ["a"]])
        with self.assertRaises(NoCommand):
            desk.execute("can x")

    def test_cells_that_are_called_like_commands(self):
        couples = (("lay", "look"), ("look", "lay"))
        world = (("lay", "look"), (("tile", couples),), ("mark",), (("tile", "mark", "mark"),), ())
        land = ((("finish", "mark"), ("undo", "mark")), (("tile", "finish", "undo"),))
        desk = desk_of(world, land)
        self.assertEqual(desk.execute("lay finish lay"), ["done"])
        self.assertEqual(desk.execute("must"), ["finish lay", "undo look"])
        self.assertEqual(desk.execute("guide mark look lay"), ["refused NoGuide"])
        self.assertEqual(desk.execute("tell undo look"), ["done"])

    def test_what_is_returned_is_new(self):
        desk = desk_of(SHORE, LINE)
        for line in ("look", "ahead", "open", "log", "bound", "sure", "can x", "must", "lay x m", "lay x m"):
            first = desk.execute(line)
            shown = list(first)
            first.append("spoilt")
            if line != "lay x m":
                self.assertEqual(desk.execute(line), shown)

    def test_the_greatest_sizes(self):
        for seed in range(4):
            dice = Dice(seed)
            world = (COAST, STONES, great_world(dice), great_world(dice, each_told=True))[seed]
            land = greatest_land(world, dice)
            desk, house = desk_of(world, land), House(world, land)
            for _ in range(30):
                words = drawn_words(dice, world, land)
                self.check(desk, world, land, house, words, " ".join(words))


class Desks(unittest.TestCase):
    def test_wrong(self):
        for thing in odd_values():
            if type(thing) is not str:
                for place, call in (
                    (0, lambda: Desk(thing, "")), (0, lambda: Desk(thing, thing)), (1, lambda: Desk("", thing)),
                    (1, lambda: Desk(world_text(SHORE), thing)),
                ):
                    with self.assertRaises(Wrong) as caught:
                        call()
                    self.assertEqual(caught.exception.place, place)

    def test_errors_of_the_texts_in_their_order(self):
        for world, land, error, fields in (
            ("", "zz", NoText, {"line": 1, "column": 0}),
            ("tile a\nmark m\nzz", "zz", NoText, {"line": 2, "column": 0}),
            ("tile a\nmark m", "\nzz", NoText, {"line": 1, "column": 0}),
            ("tile a\nmark m", "cell x n", NoText, {"line": 0, "column": 2}),
            ("tile a\nmark m\nkind k\ntie k m m", "zz", NoWorld, {"fault": ("partner", "k", "a")}),
        ):
            with self.assertRaises(error) as caught:
                Desk(world, land)
            self.assertEqual(vars(caught.exception), fields)
        self.assertEqual(Desk("tile a\nmark m # one\n", "  cell  x m\n\n#none").execute("look"), ["x a"])

    def test_execute_of_any_value(self):
        desk = desk_of(STONES, TRIANGLE)
        desk.execute("lay x s")
        for thing in (*odd_values(), "look\n", "\nlook", "lay y\ns", desk, desk.house()):
            if type(thing) is not str or "\n" in thing:
                with self.assertRaises(Wrong) as caught:
                    desk.execute(thing)
                self.assertEqual(caught.exception.place, 0)
            else:
                with self.assertRaises(NoCommand):
                    desk.execute(thing)
        self.assertEqual(desk.execute("log"), ["lay x s"])

    def test_house_is_a_twin(self):
        desk = desk_of(SHORE, LINE)
        desk.execute("lay x m")
        desk.execute("undo")
        house = desk.house()
        self.assertIs(type(house), House)
        self.assertTrue(house == desk.house())
        house.redo()
        house.lay("y", "s")
        self.assertEqual(desk.execute("log"), ["lay x m", "undo"])
        self.assertEqual(desk.execute("redo"), ["done"])
        self.assertEqual(house.log(), "lay x m\nundo\nredo\nlay y s\n")
        self.assertEqual(desk.execute("ahead"), ["x m"])

    def test_two_desks_do_not_notice_each_other(self):
        one, other = desk_of(SHORE, LINE), desk_of(SHORE, LINE)
        one.execute("lay x m")
        self.assertEqual(other.execute("ahead"), [])
        other.execute("lay x w")
        one.execute("undo")
        self.assertEqual((one.execute("ahead"), other.execute("ahead")), ([], ["x w"]))
        self.assertEqual(desk_of(TURNS, ((), ())).execute("log"), [])
