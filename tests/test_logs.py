"""Point 34: logs, cut anywhere or at fault, and the house that is opened again from them."""

import unittest

from laidanyhow.errors import NoText, TileError, Wrong
from laidanyhow.house import House
from laidanyhow.logs import reopened, whole_lines
from tests.own_house import OwnHouse
from tests.samples import COAST, LONE, STONES, TRIANGLE, Dice, all_told, great_world, greatest_land, land_by_words
from tests.samples import nearly, odd_values, world_by_words
from tests.test_house import LINE, RING, SHORE, TWO, drawn_act, outcome, pairs

TOLD = (*SHORE[:4], (("m", "w"),))


def replayed(world, land, text):
    """An own house that has written all whole lines, or where the first line at fault is: (line, column)."""
    own = OwnHouse(world, land)
    told = all_told(world)
    for index, line in enumerate(text.split("\n")[:-1]):
        if not is_done(own, told, line):
            return (index, column_by_words([row.split(" ") for row in own.lines(told)], line.split(" ")))
    return own


def is_done(own, told, line):
    """Whether an own house can write this line next; then it has done so."""
    cells = [cell for cell, mark in own.land[0]]
    sort, *words = line.split(" ")
    try:
        if sort == "lay" and len(words) == 2 and words[0] in cells and words[1] in own.world[0]:
            own.lay(*words)
        elif sort == "tell" and words and words[0] in cells and tuple(words[1:]) in told:
            own.tell(words[0], tuple(words[1:]))
        elif sort == "back" and len(words) == 1 and words[0] in cells:
            own.take_back(*words)
        elif line in ("finish", "undo", "redo"):
            getattr(own, line)()
        else:
            return False
    except TileError:
        return False
    return True


def column_by_words(rows, words):
    """The first column such that none of these rows begins with the words up to it, or the number of words."""
    for column in range(len(words)):
        if not any(row[:column + 1] == words[:column + 1] for row in rows):
            return column
    return len(words)


def drawn_log(dice, world, land, house, many):
    for _ in range(many):
        outcome(lambda: drawn_act(dice, world, land)(house))
    return house.log()


def spoilt(dice, world, land, text):
    """A log that is at fault somewhere, or is not."""
    lines = text.split("\n")[:-1]
    place = dice.below(len(lines))
    words = lines[place].split(" ")
    at = dice.below(len(words))
    some = ["", "x", "lay", "tell", "back", "finish", "undo", "redo", "zz", *world[0]]
    some += [cell for cell, mark in land[0]]
    choice = dice.below(10)
    if choice == 0:
        words[at] = dice.one(some)
    elif choice == 1:
        del words[at]
    elif choice == 2:
        words.insert(at, words[at])
    elif choice == 3:
        words.append(dice.one(some))
    elif choice == 4:
        words.insert(at, "")
    elif choice == 5:
        words.append("")
    elif choice == 6:
        words = dice.mixed(words)
    elif choice == 7:
        words = [dice.one(some) for _ in range(1 + dice.below(4))]
    elif choice == 8:
        words = dice.one([["undo"], ["redo"], ["finish"], ["back"], ["lay"], ["tell"], [""]])
    else:
        words = lines[dice.below(len(lines))].split(" ")
    return "\n".join([*lines[:place], " ".join(words), *lines[place + dice.below(2):]]) + "\n"


class WholeLines(unittest.TestCase):
    def test_whole_lines(self):
        for text, lines in (
            ("", ()), ("a", ()), ("a\n", ("a",)), ("a\nb", ("a",)), ("\n", ("",)), ("\n\n", ("", "")),
            ("a\n\nb\n", ("a", "", "b")), (" a  b \nc\n d", (" a  b ", "c")), ("lay x m\nundo\n", ("lay x m", "undo")),
        ):
            self.assertEqual(whole_lines(text), lines)


class Reopened(unittest.TestCase):
    def check(self, world, land, text):
        """Compare with an own house; return the fault, None if there is none."""
        expected = replayed(world, land, text)
        if type(expected) is tuple:
            with self.assertRaises(NoText) as caught:
                reopened(world, land, text)
            self.assertEqual((caught.exception.line, caught.exception.column), expected)
            return expected
        house = reopened(world, land, text)
        self.assertIs(type(house), House)
        whole = text[:text.rfind("\n") + 1]
        self.assertEqual(house.log(), whole)
        self.assertEqual((house.ahead(), house.acts()), (expected.ahead(), expected.acts()))
        for goes in ("undo", "redo", "redo", "undo", "undo", "finish"):
            self.assertEqual(outcome(getattr(house, goes)), outcome(getattr(expected, goes)))
            self.assertEqual((house.ahead(), house.log()), (expected.ahead(), expected.log()))
        return None

    def test_logs_cut_anywhere(self):
        for dice, world, land, house, own in pairs(30):
            text = drawn_log(dice, world, land, house, 9)
            self.assertTrue(reopened(world, land, text) == house)
            for cut in range(len(text) + 1):
                again = reopened(world, land, text[:cut])
                self.assertEqual(again.log(), text[:text[:cut].rfind("\n") + 1])
            self.assertIsNone(self.check(world, land, text[:dice.below(len(text) + 1)]))
            self.assertTrue(reopened(world, land, text + "lay q q") == house)

    def test_logs_that_are_at_fault(self):
        answers = {"none": 0}
        for dice, world, land, house, own in pairs(260, 4, 6):
            text = drawn_log(dice, world, land, house, dice.one([2, 5, 9]))
            if text == "":
                continue
            for _ in range(3):
                fault = self.check(world, land, spoilt(dice, world, land, text))
                key = "none" if fault is None else fault[1]
                answers[key] = answers.get(key, 0) + 1
        self.assertTrue({"none", 0, 1, 2, 3} <= set(answers), answers)
        self.assertTrue(min(answers[key] for key in ("none", 0, 1, 2, 3)) > 20, answers)

    def test_columns(self):
        for text, fault in (
            ("\n", (0, 0)), (" lay x m\n", (0, 0)), ("Lay x m\n", (0, 0)), ("lay\n", (0, 1)), ("lay \n", (0, 1)),
            ("lay x\n", (0, 2)), ("lay x \n", (0, 2)), ("lay q m\n", (0, 1)), ("lay x q\n", (0, 2)),
            ("lay x m m\n", (0, 3)), ("lay x m \n", (0, 3)), ("lay  x m\n", (0, 1)), ("lay x  m\n", (0, 2)),
            ("tell\n", (0, 1)), ("tell x\n", (0, 2)), ("tell x m w s\n", (0, 4)), ("tell x m s\n", (0, 4)),
            ("tell x s w\n", (0, 3)), ("tell x w m\n", (0, 3)), ("tell x m m\n", (0, 3)), ("tell y \n", (0, 2)),
            ("tell x m s w w\n", (0, 5)), ("tell x m s w \n", (0, 5)), ("tell q m\n", (0, 1)),
            ("back x\n", (0, 0)), ("back\n", (0, 0)), ("lay x m\nback y\n", (1, 1)), ("lay x m\nback\n", (1, 1)),
            ("lay x m\nback x x\n", (1, 2)), ("lay x m\nback x\nback x\n", (2, 0)), ("undo\n", (0, 0)),
            ("redo\n", (0, 0)), ("finish \n", (0, 1)), ("finish\nredo\n", (1, 0)), ("finish\nundo\nundo\n", (2, 0)),
            ("finish\nundo\nredo\nredo\n", (3, 0)), ("finish\nundo\nlay x m\nredo\n", (3, 0)),
            ("lay x m\nundo now\n", (1, 1)), ("lay x m\n\nlay y s\n", (1, 0)), ("lay x m\nlay y w\n", (1, 2)),
            ("lay x m\nlay x s\n", (1, 2)), ("lay x m\ntell x m s\n", (1, 3)), ("lay x m\ntell x m s w\n", (1, 3)),
            ("lay x m\ntell y w\n", (1, 2)), ("lay x m\r\n", (0, 2)), ("undo x\n", (0, 0)), ("sure\n", (0, 0)),
        ):
            self.assertEqual(self.check(TOLD, LINE, text), fault, text)

    def test_tiles_that_begin_a_lot_of_more(self):
        for text, fault in (
            ("tell x m\n", None), ("tell x m w\n", None), ("tell x m s w\n", None), ("tell x m s\n", (0, 4)),
            ("tell x m w\ntell x m s\n", (1, 3)), ("tell x m w\ntell x m w\n", None),
            ("tell x m w\ntell x s\n", (1, 2)), ("lay y s\ntell x m w\nlay z w\n", None),
            ("lay y m\ntell x w\n", (1, 2)), ("lay y m\ntell x m w\n", None),
        ):
            self.assertEqual(self.check(TOLD, LINE, text), fault, text)

    def test_where_nothing_can_be_laid(self):
        for text, fault in (
            ("lay x p\n", (0, 0)), ("lay\n", (0, 0)), ("finish\n", (0, 0)), ("finish x\n", (0, 0)),
            ("tell x p\n", (0, 3)), ("tell x p q\n", None), ("tell x p q\nback x\n", None),
            ("tell x q\n", (0, 2)), ("tell x q p\n", (0, 2)),
        ):
            self.assertEqual(self.check(TWO, RING, text), fault, text)
        land = (tuple(sorted((("a0", "a"), *RING[0]))), RING[1])
        for text, fault in (("lay x p\n", (0, 1)), ("lay a0 p\n", None), ("lay\n", (0, 1)), ("lay a0\n", (0, 2))):
            self.assertEqual(self.check(TWO, land, text), fault, text)
        for text, fault in (
            ("lay\n", (0, 0)), ("tell\n", (0, 0)), ("tell x a\n", (0, 0)), ("back\n", (0, 0)), ("finish\n", None),
            ("finish\nundo\nredo\nundo\nfinish\n", None), ("finish x\n", (0, 1)), ("", None),
        ):
            self.assertEqual(self.check(LONE, ((), ()), text), fault, text)

    def test_words_of_other_logs(self):
        house = House(SHORE, LINE)
        house.tell("z", ("m", "s"))
        house.finish()
        self.assertEqual(replayed(STONES, TRIANGLE, house.log()), (0, 2))
        self.assertEqual(self.check(STONES, TRIANGLE, house.log()), (0, 2))
        self.assertEqual(self.check(SHORE, RING, house.log()), None)

    def test_wrong(self):
        house = House(SHORE, LINE)
        for place, things, call in (
            (0, [thing for thing in (*odd_values(), *nearly(SHORE), house) if not world_by_words(thing)],
             lambda thing: reopened(thing, None, None)),
            (1, [thing for thing in (*odd_values(), *nearly(LINE), house) if not land_by_words(SHORE, thing)],
             lambda thing: reopened(SHORE, thing, None)),
            (2, [thing for thing in (*odd_values(), house) if type(thing) is not str],
             lambda thing: reopened(SHORE, LINE, thing)),
        ):
            for thing in things:
                with self.assertRaises(Wrong) as caught:
                    call(thing)
                self.assertEqual(caught.exception.place, place)
        for thing in odd_values():
            if type(thing) is str:
                fault = outcome(lambda: reopened(SHORE, LINE, thing).log())
                self.assertEqual(fault, ("NoText", {"line": 0, "column": 0}) if "\n" in thing else "")

    def test_the_greatest_sizes(self):
        for seed in range(5):
            dice = Dice(seed)
            world = (SHORE, COAST, STONES, great_world(dice), great_world(dice, each_told=True))[seed]
            land = greatest_land(world, dice)
            text = drawn_log(dice, world, land, House(world, land), 30)
            self.assertEqual(reopened(world, land, text).log(), text)
            for line in ("lay", "tell", f"tell {land[0][0][0]}", f"lay {land[0][0][0]} q", "back q", "tell q"):
                with self.assertRaises(NoText) as caught:
                    reopened(world, land, text + line + "\n")
                self.assertEqual(caught.exception.line, text.count("\n"))
        self.assertTrue(issubclass(NoText, TileError))
