"""Points 9, 10 and 32: what is opened, in whatever order, what building changes, and boards that are alike."""

import unittest

from laidanyhow.boards import board_look, is_board, near, tile_at
from laidanyhow.errors import NoForget, NoGuide, Refused, TooMany
from laidanyhow.guides import is_sure
from laidanyhow.openings import alike, changed, opened, picture, window
from tests.board_samples import CHESS, COUPLES, SHORE, SHORES, SLOPES, around, forgetting_boards, random_builds
from tests.test_boards import LOOSE

REFUSED = {(0, 0): "w", (1, 0): "m"}
MANY = {(3 * number, 0): "m" for number in range(81)}


def samples(many):
    """Boards of SURE WORLDS that forget, and BUILDS that the look does not refuse."""
    for dice, board, number in forgetting_boards(many):
        builds = random_builds(board, dice, 3, 5)
        if is_sure(board[0]) and board_look(board, builds) is not None:
            yield dice, board, number, builds


def random_window(dice):
    return (dice.below(7) - 4, dice.below(7) - 4, 1 + dice.below(5), 1 + dice.below(4))


def places_of(one):
    x, y, width, height = one
    return [(x + i, y + j) for j in range(height) for i in range(width)]


class Windows(unittest.TestCase):
    def test_window_and_picture(self):
        opened_tiles = 0
        for dice, board, number, builds in samples(60):
            one = random_window(dice)
            x, y, width, height = one
            rows = tuple(tuple(tile_at(board, builds, (x + i, y + j)) for i in range(width)) for j in range(height))
            self.assertEqual(window(board, builds, one), rows)
            self.assertEqual(picture(board, builds, one), "\n".join(" ".join(row) for row in rows))
            opened_tiles += width * height
        self.assertGreater(opened_tiles, 200)

    def test_edges(self):
        self.assertEqual(window(SHORES, {}, (-5, 10 ** 30, 1, 1)), (("m",),))
        self.assertEqual(picture(SHORES, {(0, 0): "w"}, (-2, 0, 4, 1)), "m s w s")
        self.assertEqual(picture(SHORES, {(0, 0): "w"}, (0, -1, 1, 4)), "s\nw\ns\nm")
        self.assertEqual(len(window(SHORES, {(3, 3): "w"}, (0, 0, 20, 20))), 20)
        self.assertEqual({len(row) for row in window(SHORES, {(3, 3): "w"}, (0, 0, 400, 1))}, {400})
        self.assertEqual(len(window(SHORES, {(3, 3): "w"}, (0, 0, 1, 400))), 400)

    def test_opened(self):
        for dice, board, number, builds in samples(60):
            windows = tuple(random_window(dice) for _ in range(dice.below(4)))
            places = sorted({place for one in windows for place in places_of(one)})
            expected = {place: tile_at(board, builds, place) for place in places}
            found = opened(board, builds, windows)
            self.assertEqual(list(found.items()), list(expected.items()))
            self.assertEqual(opened(board, builds, tuple(dice.mixed(windows))), expected)
            one_by_one = {}
            for one in windows:
                part = opened(board, builds, (one,))
                self.assertEqual([one_by_one.get(place, part[place]) for place in part], list(part.values()))
                one_by_one |= part
            self.assertEqual(one_by_one, expected)

    def test_opened_of_none_and_of_those_upon_each_other(self):
        self.assertEqual(opened(SHORES, {}, ()), {})
        self.assertEqual(opened(SHORES, {(0, 0): "w"}, ()), {})
        twice = opened(SHORES, {(0, 0): "w"}, ((0, 0, 2, 2), (0, 0, 2, 2), (1, 1, 1, 1)))
        self.assertEqual(twice, opened(SHORES, {(0, 0): "w"}, ((0, 0, 2, 2),)))
        self.assertEqual(list(twice), [(0, 0), (0, 1), (1, 0), (1, 1)])

    def test_errors_in_their_order(self):
        for board, builds, error in (
            (CHESS, {}, NoForget), (CHESS, MANY, NoForget), (SHORES, MANY, TooMany), (LOOSE, MANY, TooMany),
            (LOOSE, {}, NoGuide), (LOOSE, {(0, 0): "a", (1, 0): "a"}, NoGuide), (SHORES, REFUSED, Refused),
        ):
            for call in (
                lambda: window(board, builds, (90, 90, 1, 1)), lambda: picture(board, builds, (90, 90, 1, 1)),
                lambda: opened(board, builds, ()), lambda: opened(board, builds, ((90, 90, 1, 1),)),
                lambda: changed(board, builds, (0, 0), board[0][0][0]), lambda: alike(board, builds, SHORES, {}),
                lambda: alike(SHORES, {}, board, builds), lambda: alike(board, builds, SHORES, REFUSED),
            ):
                with self.assertRaises(error):
                    call()

    def test_all_tiles_beside_each_other_fit(self):
        for dice, board, number, builds in samples(50):
            tables = dict(board[0][1])
            tiles = opened(board, builds, ((-6, -6, 13, 13),))
            for x, y in tiles:
                for kind, other in ((board[2], (x + 1, y)), (board[3], (x, y + 1))):
                    if other in tiles:
                        self.assertIn((tiles[x, y], tiles[other]), tables[kind])


class Changed(unittest.TestCase):
    def test_changed(self):
        answers = {"refused": 0, "none": 0, "some": 0}
        for dice, board, number, builds in samples(110):
            place = dice.one([(0, 0), (dice.below(7) - 3, dice.below(7) - 3), *list(builds)])
            tile = dice.one(board[0][0])
            later = {**builds, place: tile}
            if board_look(board, later) is None:
                with self.assertRaises(Refused):
                    changed(board, builds, place, tile)
                answers["refused"] += 1
                continue
            wide = ((-9, -9, 19, 19),)
            before = opened(board, builds, wide)
            behind = opened(board, later, wide)
            expected = {one: (before[one], behind[one]) for one in before if before[one] != behind[one]}
            found = changed(board, builds, place, tile)
            self.assertEqual(list(found.items()), list(expected.items()))
            self.assertLessEqual(set(found), {*near(board, builds), *near(board, later)})
            self.assertTrue(all(before == tile_at(board, builds, one) for one, (before, _) in found.items()))
            answers["some" if found else "none"] += 1
        self.assertTrue(min(answers["none"], answers["some"]) > 20, answers)

    def test_what_makes_no_difference(self):
        self.assertEqual(changed(SHORES, {(0, 0): "w"}, (0, 0), "w"), {})
        self.assertEqual(tile_at(SHORES, {(0, 0): "w"}, (7, 7)), "m")
        self.assertEqual(changed(SHORES, {(0, 0): "w"}, (7, 7), "m"), {})
        self.assertEqual(changed(SHORES, {(0, 0): "w"}, (7, 7), "s"), {(7, 7): ("m", "s")})

    def test_what_was_there_goes(self):
        found = changed(SHORES, {(0, 0): "w"}, (0, 0), "m")
        self.assertEqual(found, {place: (tile_at(SHORES, {(0, 0): "w"}, place), "m") for place in around([(0, 0)], 1)})
        far = 10 ** 25
        found = changed(SHORES, {(0, 0): "w"}, (far, -far), "w")
        self.assertEqual(list(found), [(far - 1, -far), (far, -far - 1), (far, -far), (far, 1 - far), (far + 1, -far)])
        self.assertEqual(found[far, -far], ("m", "w"))

    def test_errors_of_what_is_built_come_first(self):
        with self.assertRaises(Refused):
            changed(SHORES, {(0, 0): "w"}, (1, 0), "m")
        # What is there is refused, though what comes behind would not be.
        with self.assertRaises(Refused):
            changed(SHORES, REFUSED, (1, 0), "s")
        full = {place: MANY[place] for place in list(MANY)[:80]}
        with self.assertRaises(TooMany):
            changed(SHORES, full, (0, 9), "m")
        self.assertEqual(changed(SHORES, full, (0, 0), "m"), {})
        with self.assertRaises(Refused):
            changed(SHORES, {place: full[place] for place in list(full)[3:]} | REFUSED, (500, 9), "m")


class Alike(unittest.TestCase):
    def alike_by_words(self, board, builds, other, others):
        """Whether all TILES of a part that is great enough for ROWS up to four, and of what is built, are the same."""
        wide = ((-14, -14, 29, 29),)
        return opened(board, builds, wide) == opened(other, others, wide)

    def other_board(self, dice, board):
        """The same BOARD with other ROWS: moved round, or so many times over; or one that is like it."""
        world, rows, right, down = board
        choice = dice.below(5)
        if choice == 0:
            return (world, rows * 2, right, down)
        if choice == 1:
            return (world, tuple(row * 2 for row in rows), right, down)
        if choice == 2:
            return (world, rows[1:] + rows[:1], right, down)
        if choice == 3:
            return (world, tuple(row[1:] + row[:1] for row in rows), right, down)
        return (world, rows, down, right)

    def test_alike(self):
        answers = {True: 0, False: 0}
        for dice, board, number, builds in samples(80):
            other = self.other_board(dice, board)
            others = dice.one([builds, builds, {}, random_builds(board, dice, 2, 5)])
            if not is_board(other) or board_look(other, others) is None:
                continue
            expected = self.alike_by_words(board, builds, other, others)
            self.assertIs(alike(board, builds, other, others), expected)
            self.assertIs(alike(other, others, board, builds), expected)
            answers[expected] += 1
        self.assertTrue(min(answers.values()) > 5, answers)

    def test_rows_that_come_again(self):
        world = (("p", "q"), (("by", (("p", "q"), ("q", "p"), ("q", "q"))),), ("a", "b"),
                 (("by", "a", "b"), ("by", "b", "a"), ("by", "b", "b")), ())
        two, other = (world, (("a", "b"), ("b", "b")), "by", "by"), (world, (("b", "a"), ("b", "b")), "by", "by")
        twice = (world, (("a", "b"), ("b", "b")) * 3, "by", "by")
        wide = (world, (("a", "b") * 3, ("b", "b") * 3), "by", "by")
        tiles = {tile_at(two, {}, (x, y)) for x in range(2) for y in range(2)}
        self.assertEqual(tiles, {"p", "q"})
        self.assertIs(alike(two, {}, two, {}), True)
        self.assertIs(alike(two, {}, twice, {}), True)
        self.assertIs(alike(wide, {}, twice, {}), True)
        self.assertIs(alike(two, {}, other, {}), False)
        self.assertIs(alike(other, {}, wide, {}), False)

    def test_unlike_far_away_only(self):
        # Six rows against five: only one place in thirty by thirty is another one.
        def board(high, wide, odd):
            rows = [["b"] * wide for _ in range(high)]
            if odd is not None:
                rows[odd[1]][odd[0]] = "a"
            couples = (("p", "q"), ("q", "p"), ("q", "q"))
            ties = (("by", "a", "b"), ("by", "b", "a"), ("by", "b", "b"))
            world = (("p", "q"), (("by", couples),), ("a", "b"), ties, ())
            return (world, tuple(tuple(row) for row in rows), "by", "by")

        plain = board(5, 5, None)
        if tile_at(plain, {}, (0, 0)) == tile_at(board(6, 6, (0, 0)), {}, (0, 0)):
            self.fail("the two marks are laid alike")
        for odd in ((0, 0), (5, 5), (5, 0), (0, 5)):
            self.assertIs(alike(plain, {}, board(6, 6, odd), {}), False)
            self.assertIs(alike(board(6, 6, odd), {}, plain, {}), False)
        self.assertIs(alike(plain, {}, board(6, 6, None), {}), True)
        self.assertIs(alike(board(6, 5, None), {}, board(1, 1, None), {}), True)

    def test_rows_that_begin_alike(self):
        # With periods of five and six MARKS the first nine are the same, and the tenth is not.
        everything = tuple((one, other) for one in "pq" for other in "pq")
        kinds = (("by", (("p", "q"), ("q", "p"), ("q", "q"))), ("on", everything))
        ties = (("by", "a", "b"), ("by", "b", "a"), ("by", "b", "b"), ("on", "a", "a"), ("on", "b", "b"))
        world = (("p", "q"), kinds, ("a", "b"), ties, ())
        five, six = "bbbba", "bbbbab"
        self.assertEqual((five * 2)[:9], (six * 2)[:9])
        low = [(world, tuple((mark,) for mark in marks), "on", "by") for marks in (five, six)]
        wide = [(world, (tuple(marks),), "by", "on") for marks in (five, six)]
        for one, other in (low, wide):
            self.assertTrue(is_board(one) and is_board(other))
            self.assertNotEqual(tile_at(one, {}, (0, 0)), tile_at(one, {}, (4, 4)))
            self.assertIs(alike(one, {}, other, {}), False)
            self.assertIs(alike(other, {}, one, {}), False)
            self.assertIs(alike(other, {}, (world, other[1] * 2, *other[2:]), {}), True)

    def test_other_worlds(self):
        more = (("m", "s", "w", "x"), (("by", (*COUPLES, ("x", "x"))),), ("a",), (("by", "a", "a"),), ())
        self.assertIs(alike(SHORES, {}, ((*SHORE[:4], (("m", "s"),)), (("a",),), "by", "by"), {}), True)
        couples = tuple((one, other) for one in "st" for other in "st")
        sandy = (("s", "t"), (("by", couples),), ("a",), (("by", "a", "a"),), ())
        self.assertIs(alike(SHORES, {}, (sandy, (("a",),), "by", "by"), {}), False)
        with self.assertRaises(NoForget):
            alike(SHORES, {}, (more, (("a",),), "by", "by"), {})

    def test_builds(self):
        self.assertIs(alike(SHORES, {}, SHORES, {(5, 5): "m", (50, 5): "m"}), True)
        self.assertIs(alike(SHORES, {(5, 5): "w"}, SHORES, {}), False)
        self.assertIs(alike(SHORES, {}, SHORES, {(10 ** 30, 5): "w"}), False)
        self.assertIs(alike(SHORES, {(5, 5): "w"}, SHORES, {(5, 5): "w", (5, 6): "s"}), True)
        self.assertIs(alike(SHORES, {(5, 5): "w"}, SHORES, {(5, 5): "w", (5, 6): "w"}), False)
        self.assertIs(alike(SHORES, {(5, 5): "w"}, SHORES, {(5, 6): "w"}), False)

    def test_errors_of_the_first_ones_come_first(self):
        for first, second, error in (
            ((CHESS, {}), (SHORES, MANY), NoForget), ((SHORES, MANY), (CHESS, {}), TooMany),
            ((LOOSE, {}), (CHESS, {}), NoGuide), ((SHORES, REFUSED), (LOOSE, {}), Refused),
            ((SHORES, {}), (SHORES, REFUSED), Refused), ((SHORES, {}), (CHESS, {}), NoForget),
            ((SLOPES, {}), (LOOSE, {}), NoGuide),
        ):
            with self.assertRaises(error):
                alike(*first, *second)
