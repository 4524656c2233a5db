"""Points 10 and 31: endless boards, what is near to what is built on them, and what the look leaves there."""

import unittest

from laidanyhow.boards import are_builds, board_look, can_build, is_board, is_place, mark_at, near, part_land, tile_at
from laidanyhow.errors import NoForget, NoGuide, Refused, TooMany
from laidanyhow.forms import is_ahead, is_land
from laidanyhow.guides import guide, is_sure
from laidanyhow.layings import least_laying
from laidanyhow.looks import look
from laidanyhow.rounds import forgets
from tests.board_samples import CHESS, COUPLES, SHORE, SHORES, SLOPES, TURNS, around, forgetting_boards
from tests.board_samples import is_board_by_words, lots_by_words, mark_by_words, part_by_words, random_board
from tests.board_samples import random_builds
from tests.samples import Dice, nearly, nearly_part, odd_values

# A WORLD that forgets in two, but has no GUIDE: where a or b is told, neither can be laid everywhere.
UNLIKE = tuple((one, other) for one in "abc" for other in "abc" if one != other)
LOOSE = (
    (("a", "b", "c"), (("by", (*UNLIKE, ("c", "c"))),), ("m",), (("by", "m", "m"),), (("a", "b"),)),
    (("m",),), "by", "by",
)


class Forms(unittest.TestCase):
    def test_is_board(self):
        for seed in range(60):
            board = random_board(Dice(seed))
            self.assertIs(is_board(board), True)
        for board in (SHORES, SLOPES, CHESS, LOOSE):
            self.assertIs(is_board(board), True)

    def test_is_board_of_any_value(self):
        answers = {True: 0, False: 0}
        things = odd_values()
        for board in (SHORES, CHESS):
            things += [*nearly(board), *nearly_part(board)]
            things += [(board[0], value, *board[2:]) for value in odd_values()]
            things += [(board[0], (value,), *board[2:]) for value in odd_values()]
            things += [(board[0], ((value,),), *board[2:]) for value in odd_values()]
            things += [(*board[:2], value, board[3]) for value in odd_values()]
            things += [(*board[:3], value) for value in odd_values()]
        for thing in things:
            expected = is_board_by_words(thing)
            self.assertIs(is_board(thing), expected, repr(thing)[:200])
            answers[expected] += 1
        self.assertGreater(answers[False], 500)

    def test_rows_and_marks(self):
        for rows, expected in (
            ((("a", "b"), ("b", "a")), True),
            ((("a", "b"),), False),
            ((("a",), ("b",)), False),
            ((("a", "b"), ("b",)), False),
            ((("a", "b"), ("b", "a", "b")), False),
            ((("a", "b", "a", "b"), ("b", "a", "b", "a")), True),
            ((("a", "b", "a"), ("b", "a", "b")), False),
            ((("a", "b"), ("b", "a"), ("a", "b")), False),
            ((), False),
            (((),), False),
            (((), ()), False),
            ((["a", "b"], ("b", "a")), False),
            ([("a", "b"), ("b", "a")], False),
            ((("a", "c"), ("c", "a")), False),
            ((("p", "q"), ("q", "p")), False),
        ):
            self.assertIs(is_board((TURNS, rows, "by", "by")), expected)
            self.assertIs(is_board_by_words((TURNS, rows, "by", "by")), expected)
        for rows in ((("a", "a"), ("a",)), (("a",), ("a", "a")), (("a",), ()), ((), ("a",)), (("a",) * 3, ("a",))):
            self.assertIs(is_board((SHORE, rows, "by", "by")), False)
        self.assertIs(is_board((SHORE, (("a", "a"), ("a", "a")), "by", "by")), True)

    def test_each_kind_needs_its_pattern_ties(self):
        both = (("k", COUPLES), ("l", COUPLES))
        world = (SHORE[0], both, ("a", "b"), (("k", "a", "b"), ("k", "b", "a"), ("l", "a", "a"), ("l", "b", "b")), ())
        self.assertIs(is_board((world, (("a", "b"),), "k", "l")), True)
        self.assertIs(is_board((world, (("a", "b"),), "l", "k")), False)
        self.assertIs(is_board((world, (("a", "b"),), "k", "k")), False)
        self.assertIs(is_board((world, (("a",), ("b",)), "l", "k")), True)
        self.assertIs(is_board((world, (("a",), ("b",)), "k", "l")), False)
        self.assertIs(is_board((world, (("a",),), "k", "l")), False)
        self.assertIs(is_board(((*world[:3], world[3][1:], ()), (("a", "b"),), "k", "l")), False)
        self.assertIs(is_board(((*world[:3], world[3][:3], ()), (("a", "b"),), "k", "l")), False)

    def test_is_place(self):
        for thing in ((0, 0), (-1, 5), (10 ** 39, -10 ** 39)):
            self.assertIs(is_place(thing), True)
        wrong = [(True, 0), (0, False), (0,), (0, 0, 0), [0, 0], ("0", 0), (0, None), ((0, 0),), (), "00", {0: 0}, 0]
        wrong += [*odd_values(), *((0, value) for value in odd_values() if type(value) is not int)]
        for thing in (*wrong, *((value, 0) for value in odd_values() if type(value) is not int)):
            self.assertIs(is_place(thing), False)

    def test_are_builds(self):
        for thing in ({}, {(0, 0): "m"}, {(5, -5): "w", (0, 10 ** 30): "s"}):
            self.assertIs(are_builds(SHORES, thing), True)
        wrong = [
            {(True, 0): "m"}, {(0, False): "m"}, {(0, 0): "q"}, {(0, 0): ("m",)}, {(0, 0): None}, {(0, 0, 0): "m"},
            {0: "m"}, {(0, 0): "m", (1, 1): "q"}, {(0, 0): "m", "x": "m"}, [((0, 0), "m")], (((0, 0), "m"),),
            {(0, 0): "a"}, {((0, 0),): "m"}, {(0, "0"): "m"}, {None: "m"},
        ]
        values = [value for value in odd_values() if value != "m"]
        wrong += [{(0, 0): value} for value in values] + [{(0, 0): "m", (1, 1): value} for value in values]
        wrong += [thing for thing in odd_values() if thing != {}]
        for thing in wrong:
            self.assertIs(are_builds(SHORES, thing), False)

    def test_mark_at(self):
        board = (None, (("a", "b", "c"), ("d", "e", "f")), None, None)
        for place, mark in (
            ((0, 0), "a"), ((2, 1), "f"), ((3, 2), "a"), ((-1, -1), "f"), ((-3, -2), "a"), ((-2, 5), "e"),
            ((10 ** 30, 10 ** 30), "b"), ((-10 ** 30, 1 - 10 ** 30), "f"),
        ):
            self.assertEqual(mark_at(board, place), mark)
        for seed in range(20):
            dice = Dice(seed)
            board = random_board(dice)
            for _ in range(20):
                place = (dice.below(40) - 20, dice.below(40) - 20)
                self.assertEqual(mark_at(board, place), mark_by_words(board, place))


class Parts(unittest.TestCase):
    def test_part_land(self):
        for seed in range(80):
            dice = Dice(seed)
            board = random_board(dice)
            places = [(x, y) for x in range(-2, 4) for y in range(-3, 2)]
            places = tuple(sorted(dice.some(places, dice.one([2, 3, 5]))))
            builds = random_builds(board, dice, 8)
            land, ahead = part_land(board, builds, places)
            self.assertEqual((land, ahead), part_by_words(board, builds, places))
            self.assertEqual(list(ahead), sorted(ahead))
            self.assertTrue(is_land(board[0], land))
            self.assertTrue(is_ahead(board[0], land, ahead))

    def test_names(self):
        for many, first, last in (
            (1, "p0", "p0"), (10, "p0", "p9"), (11, "p00", "p10"), (100, "p00", "p99"), (101, "p000", "p100"),
        ):
            places = tuple((number, 0) for number in range(many))
            land, ahead = part_land(SHORES, {places[-1]: "w", (0, 1): "m"}, places)
            self.assertEqual((land[0][0][0], land[0][-1][0]), (first, last))
            self.assertEqual(ahead, {last: ("w",)})
            self.assertEqual((len(land[0]), len(land[1])), (many, many - 1))
        self.assertEqual(part_land(SHORES, {}, ()), (((), ()), {}))
        self.assertEqual(part_land(SHORES, {(0, 0): "m"}, ()), (((), ()), {}))

    def test_which_way_the_ties_point(self):
        world = (SHORE[0], (("k", COUPLES), ("l", COUPLES)), ("a",), (("k", "a", "a"), ("l", "a", "a")), ())
        places = ((-1, 0), (0, -1), (0, 0), (0, 1), (1, 0), (1, 1), (3, 0))
        land, ahead = part_land((world, (("a",),), "k", "l"), {(5, 5): "m"}, places)
        self.assertEqual(
            land[1],
            (("k", "p0", "p2"), ("k", "p2", "p4"), ("k", "p3", "p5"), ("l", "p1", "p2"), ("l", "p2", "p3"),
             ("l", "p4", "p5"))
        )
        self.assertEqual(ahead, {})


class Near(unittest.TestCase):
    def test_near(self):
        for dice, board, number in forgetting_boards(60):
            builds = random_builds(board, dice, 4, 12)
            self.assertEqual(near(board, builds), tuple(around(builds, number - 1)))
        self.assertEqual(near(SHORES, {}), ())

    def line(self, many):
        return {(3 * number, 0): "m" for number in range(many)}

    def test_no_forget_ahead_of_too_many(self):
        for builds in ({}, self.line(1), self.line(500)):
            for call in (near, board_look):
                with self.assertRaises(NoForget):
                    call(CHESS, builds)

    def test_just_at_four_hundred_and_just_beyond(self):
        self.assertEqual(forgets(SHORE), 2)
        # Five PLACES are near to one alone, eight to two beside each other.
        four_hundred = self.line(80)
        self.assertEqual(len(near(SHORES, four_hundred)), 400)
        self.assertEqual(len(near(SHORES, {**self.line(79), (3 * 78 + 1, 0): "m"})), 398)
        self.assertEqual(len(board_look(SHORES, four_hundred)), 400)
        self.assertEqual(tile_at(SHORES, four_hundred, (1, 0)), "m")
        self.assertTrue(can_build(SHORES, four_hundred, (0, 0), "w"))
        for builds in (self.line(81), {**four_hundred, (0, 2): "m"}, self.line(500), self.line(3000)):
            for call in (near, board_look):
                with self.assertRaises(TooMany) as caught:
                    call(SHORES, builds)
                self.assertEqual(caught.exception.most, 400)
        with self.assertRaises(TooMany):
            can_build(SHORES, four_hundred, (0, 2), "m")
        # One PLACE more: around (0, 0) and (0, 2) there are nine.
        one_more = {**self.line(78), (3 * 78 + 100, 0): "m", (3 * 78 + 100, 2): "m"}
        self.assertEqual(len(around(one_more, 1)), 399)
        two_more = {**self.line(78), (3 * 78 + 100, 0): "m", (3 * 78 + 101, 0): "m", (3 * 78 + 102, 0): "m"}
        self.assertEqual(len(around(two_more, 1)), 401)
        self.assertEqual(len(near(SHORES, one_more)), 399)
        with self.assertRaises(TooMany):
            near(SHORES, two_more)

    def test_worlds_that_forget_in_one(self):
        couples = (("a", "a"), ("a", "b"), ("b", "a"), ("b", "b"))
        world = (("a", "b"), (("by", couples),), ("m",), (("by", "m", "m"),), ())
        board = (world, (("m",),), "by", "by")
        self.assertEqual(forgets(world), 1)
        builds = {(number, -number): "b" for number in range(400)}
        self.assertEqual(near(board, builds), tuple(sorted(builds)))
        with self.assertRaises(TooMany):
            near(board, {**builds, (5, 5): "a"})


class BoardLook(unittest.TestCase):
    def test_against_greater_parts(self):
        answers = {"refused": 0, "looked": 0, "less": 0}
        for dice, board, number in forgetting_boards(72):
            builds = random_builds(board, dice, 3, 4)
            found = board_look(board, builds)
            greater = around(builds, number + dice.below(3)) + [(x, 30) for x in range(dice.below(5))]
            greater = sorted({*greater, *((x, y) for x in range(-3, 4) for y in range(-3, 4))})
            if len(greater) > 160:
                continue
            lots = lots_by_words(board, builds, greater)
            self.assertIs(found is None, lots is None)
            if found is None:
                answers["refused"] += 1
                continue
            self.assertEqual(list(found), around(builds, number - 1))
            for place in greater:
                self.assertEqual(lots[place], found.get(place, board[0][0]))
                answers["less"] += lots[place] != board[0][0] and place not in builds
            answers["looked"] += 1
        self.assertTrue(min(answers.values()) > 4, answers)

    def test_far_builds_do_not_meet(self):
        self.assertEqual(board_look(SHORES, {}), {})
        alone = board_look(SHORES, {(0, 0): "w"})
        far = board_look(SHORES, {(0, 0): "w", (4, 0): "m"})
        self.assertEqual({place: far[place] for place in alone}, alone)
        self.assertIsNone(board_look(SHORES, {(0, 0): "w", (1, 0): "m"}))
        self.assertIsNone(board_look(SHORES, {(0, 0): "w", (0, 1): "m", (9, 9): "s"}))
        self.assertEqual(board_look(SHORES, {(0, 0): "w", (1, 1): "m"})[1, 0], ("s",))
        wide = board_look(SLOPES, {(0, 0): "a", (10 ** 20, 0): "d"})
        self.assertEqual(wide[2, 0], ("a", "b", "c"))
        self.assertEqual(wide[10 ** 20 + 1, 0], ("c", "d"))

    def test_great_parts(self):
        builds = {(3 * x, 3 * y): "mw"[(x + y) % 2] for x in range(8) for y in range(10)}
        found = board_look(SHORES, builds)
        self.assertEqual(len(found), 400)
        land, ahead = part_land(SHORES, builds, tuple(around(builds, 4)))
        lots = look(SHORE, land, ahead)
        for place, (cell, mark) in zip(around(builds, 4), land[0]):
            self.assertEqual(lots[cell], found.get(place, SHORE[0]))


class TileAt(unittest.TestCase):
    def test_tile_at(self):
        answers = {"whole": 0, "looked": 0, "refused": 0, "no guide": 0}
        for dice, board, number in forgetting_boards(72):
            builds = random_builds(board, dice, 3, 4)
            lots = board_look(board, builds)
            if not is_sure(board[0]):
                with self.assertRaises(NoGuide) as caught:
                    tile_at(board, builds, (0, 0))
                self.assertEqual(caught.exception.bar, self.bar_of(board[0]))
                answers["no guide"] += 1
                continue
            for place in ((0, 0), (-2, 1), (10 ** 9, -10 ** 9), *list(builds)):
                if lots is None:
                    with self.assertRaises(Refused):
                        tile_at(board, builds, place)
                    answers["refused"] += 1
                else:
                    expected = guide(board[0])[mark_by_words(board, place), lots.get(place, board[0][0])]
                    self.assertEqual(tile_at(board, builds, place), expected)
                    self.assertEqual(expected, builds.get(place, expected))
                    answers["looked" if place in lots else "whole"] += 1
        self.assertTrue(min(answers.values()) > 1, answers)

    def bar_of(self, world):
        try:
            guide(world)
        except NoGuide as error:
            return error.bar
        return None

    def test_errors_in_their_order(self):
        self.assertEqual((forgets(LOOSE[0]), is_sure(LOOSE[0])), (2, False))
        many = {(3 * number, 0): "a" for number in range(81)}
        refused = {(0, 0): "a", (1, 0): "a"}
        for builds in (many, {**many, **refused}):
            with self.assertRaises(TooMany) as caught:
                tile_at(LOOSE, builds, (0, 0))
            self.assertEqual(caught.exception.most, 400)
        for builds in ({}, refused):
            with self.assertRaises(NoGuide) as caught:
                tile_at(LOOSE, builds, (0, 0))
            self.assertEqual(caught.exception.bar, self.bar_of(LOOSE[0]))
        with self.assertRaises(Refused):
            tile_at(SHORES, {(0, 0): "w", (1, 0): "m"}, (90, 90))
        for builds in ({}, {(0, 0): "p", (1, 0): "p"}):
            with self.assertRaises(NoForget):
                tile_at(CHESS, builds, (0, 0))

    def test_a_tile_that_is_built_is_laid_and_all_fits(self):
        fits = 0
        for dice, board, number in forgetting_boards(60):
            builds = random_builds(board, dice, 3, 4)
            world, _, right, down = board
            if not is_sure(world) or board_look(board, builds) is None:
                continue
            tables = dict(world[1])
            tiles = {(x, y): tile_at(board, builds, (x, y)) for x in range(-3, 3) for y in range(-3, 3)}
            for x, y in tiles:
                for kind, other in ((right, (x + 1, y)), (down, (x, y + 1))):
                    if other in tiles:
                        self.assertIn((tiles[x, y], tiles[other]), tables[kind])
                        fits += 1
        self.assertGreater(fits, 500)


class CanBuild(unittest.TestCase):
    def test_can_build(self):
        answers = {True: 0, False: 0}
        for dice, board, number in forgetting_boards(60):
            builds = random_builds(board, dice, 3, 4)
            for place in ((0, 0), (1, -1), *list(builds)):
                for tile in board[0][0]:
                    expected = board_look(board, {**builds, place: tile}) is not None
                    self.assertIs(can_build(board, builds, place, tile), expected)
                    answers[expected] += 1
        self.assertTrue(min(answers.values()) > 60, answers)

    def test_at_a_place_that_is_built_already(self):
        builds = {(0, 0): "w", (2, 0): "m"}
        self.assertEqual([can_build(SHORES, builds, (0, 0), tile) for tile in "msw"], [True, True, True])
        self.assertEqual([can_build(SHORES, builds, (1, 0), tile) for tile in "msw"], [False, True, False])
        refused = {(0, 0): "w", (1, 0): "m"}
        self.assertEqual([can_build(SHORES, refused, (1, 0), tile) for tile in "msw"], [False, True, True])
        self.assertEqual([can_build(SHORES, refused, (9, 9), tile) for tile in "msw"], [False, False, False])

    def test_errors_are_those_of_the_later_builds(self):
        with self.assertRaises(NoForget):
            can_build(CHESS, {}, (0, 0), "p")
        full = {(3 * number, 0): "m" for number in range(80)}
        self.assertTrue(can_build(SHORES, full, (0, 0), "s"))
        with self.assertRaises(TooMany):
            can_build(SHORES, full, (0, 5), "s")

    def test_what_can_be_built_can_be_finished_in_a_sure_world(self):
        for tile in "msw":
            for place in ((0, 0), (1, 0), (1, 1), (2, 2)):
                builds = {(0, 0): "w", (2, 1): "m", place: tile}
                land, ahead = part_land(SHORES, builds, tuple((x, y) for x in range(-1, 4) for y in range(-1, 4)))
                expected = least_laying(SHORE, land, ahead) is not None
                self.assertIs(can_build(SHORES, {(0, 0): "w", (2, 1): "m"}, place, tile), expected)
