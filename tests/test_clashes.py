"""Point 28: what cannot be told together, what to take back, what is told by two, and who is far enough apart."""

import itertools
import unittest

from laidanyhow.clashes import are_apart, fewest_back, is_back, is_clash, joined, least_clash
from laidanyhow.errors import NoForget, Refused, TooMany
from laidanyhow.looks import look
from laidanyhow.rounds import forgets
from tests.by_words import common_by_words, left_by_words
from tests.samples import COAST, LONE, STONES, TRIANGLE, TURNS, WORLDS, Dice, all_told, great_world, greatest_land
from tests.samples import land_of, nearly, odd_values, random_ahead, random_land, random_world

SHORE = (
    ("m", "s", "w"), (("by", (("m", "m"), ("m", "s"), ("s", "m"), ("s", "s"), ("s", "w"), ("w", "s"), ("w", "w"))),),
    ("a",), (("by", "a", "a"),), (),
)
NINE = tuple(f"c{number}" for number in range(9))


def samples(many, most_cells=6, most_ties=9):
    for seed in range(many):
        dice = Dice(seed)
        world = (*WORLDS, SHORE)[seed // 2 % 6] if seed % 2 else random_world(dice)
        land = random_land(world, dice, most_cells, most_ties)
        yield dice, world, land, random_ahead(world, land, dice)


def subsets(told):
    """All tuples of CELLS of what is told, shorter ones first, those of one length in order."""
    cells = sorted(told)
    return [row for size in range(len(cells) + 1) for row in itertools.combinations(cells, size)]


def left_out(told, cells):
    return {cell: told[cell] for cell in told if cell not in cells}


def refuses(world, land, told):
    return left_by_words(world, land, told) is None


def is_clash_by_words(world, land, told):
    return refuses(world, land, told) and not any(refuses(world, land, left_out(told, (cell,))) for cell in told)


def trap(cells):
    """A land of STONES with three cells in a ring for each of these, the first of which bears its name."""
    rows, ties = [], []
    for cell in cells:
        ring = (cell, f"{cell}y", f"{cell}z")
        rows += [(one, "m") for one in ring]
        ties += [("r", ring[0], ring[1]), ("r", ring[1], ring[2]), ("r", ring[2], ring[0])]
    return (tuple(sorted(rows)), tuple(sorted(ties)))


class Clashes(unittest.TestCase):
    def test_least_clash(self):
        answers = {}
        for dice, world, land, ahead in samples(300):
            found = least_clash(world, land, ahead)
            expected = None
            if refuses(world, land, ahead):
                expected = dict(ahead)
                for cell in sorted(ahead):
                    if refuses(world, land, left_out(expected, (cell,))):
                        del expected[cell]
            self.assertEqual(found, expected)
            if found is not None:
                self.assertEqual(list(found), sorted(found))
                self.assertIs(is_clash(world, land, ahead, found), True)
            size = None if found is None else len(found)
            answers[size] = answers.get(size, 0) + 1
        self.assertTrue({None, 1, 2} <= set(answers), answers)

    def test_a_clash_of_three(self):
        world = (*SHORE[:4], (("m", "w"),))
        land = (tuple((cell, "a") for cell in "xyz"), (("by", "x", "y"), ("by", "y", "z")))
        told = {"z": ("w",), "y": ("m", "w"), "x": ("m",)}
        self.assertEqual(list(least_clash(world, land, told).items()), sorted(told.items()))
        self.assertTrue(is_clash(world, land, told, told))
        for cell in told:
            self.assertIsNone(least_clash(world, land, left_out(told, (cell,))))

    def test_ascending_order_tells_which_cells_go(self):
        cells = tuple((cell, "a") for cell in "tuvx")
        land = (cells, (("by", "t", "u"), ("by", "u", "v"), ("by", "v", "x")))
        told = {"x": ("m",), "v": ("w",), "u": ("m",), "t": ("w",)}
        self.assertEqual(list(least_clash(SHORE, land, told).items()), [("v", ("w",)), ("x", ("m",))])
        self.assertEqual(least_clash(SHORE, land, left_out(told, "x")), {"u": ("m",), "v": ("w",)})
        whole = {"t": ("m", "s", "w"), "u": ("m",), "v": ("w",), "x": ("m", "s", "w")}
        self.assertEqual(least_clash(SHORE, land, whole), {"u": ("m",), "v": ("w",)})
        self.assertIsNone(least_clash(SHORE, land, {}))
        self.assertIsNone(least_clash(LONE, ((), ()), {}))

    def test_is_clash_of_all_parts_of_what_is_told(self):
        answers = {True: 0, False: 0}
        for dice, world, land, ahead in samples(160, 5):
            for cells in subsets(ahead):
                part = {cell: ahead[cell] for cell in dice.mixed(cells)}
                expected = is_clash_by_words(world, land, part)
                self.assertIs(is_clash(world, land, ahead, part), expected)
                answers[expected] += 1
        self.assertGreater(answers[True], 30)

    def test_is_clash_of_any_value(self):
        told = {"z": ("s",), "x": ("a",), "y": ("a", "b", "s")}
        line = (TRIANGLE[0], TRIANGLE[1][:2])
        clash = {"x": ("a",), "z": ("s",)}
        self.assertTrue(is_clash(STONES, line, told, {"z": ("s",), "x": ("a",)}))
        wrong = [
            {"x": ("a",)}, {"z": ("s",)}, told, {}, {"x": ("b",), "z": ("s",)}, {"x": ("a", "b"), "z": ("s",)},
            {**clash, "y": ("a", "b", "s")}, {"x": ["a"], "z": ("s",)}, {"x": "a", "z": "s"}, {**clash, "q": ("a",)},
            ("x", "z"), tuple(clash.items()),
        ]
        for thing in (*wrong, *odd_values(), *nearly(clash), *({**clash, "x": value} for value in odd_values())):
            if thing != clash:
                self.assertIs(is_clash(STONES, line, told, thing), False)
        # What clashes is told ahead, or it is no CLASH of it.
        self.assertFalse(is_clash(STONES, line, {"x": ("a",)}, clash))
        self.assertFalse(is_clash(STONES, line, {}, {}))
        self.assertTrue(is_clash(STONES, TRIANGLE, {"x": ("a",), "y": ("s",)}, {"x": ("a",)}))

    def test_lands_of_sixty_cells(self):
        for seed in range(16):
            dice = Dice(seed)
            world = (SHORE, COAST, great_world(dice), STONES)[seed % 4]
            land = greatest_land(world, dice)
            told = {cell: dice.one(all_told(world)) for cell, mark in dice.mixed(land[0])[:dice.one([4, 20, 60])]}
            found = least_clash(world, land, told)
            self.assertIs(found is None, look(world, land, told) is not None)
            if found is not None:
                self.assertIs(is_clash(world, land, told, {cell: found[cell] for cell in reversed(list(found))}), True)
                self.assertIs(is_back(world, land, told, tuple(sorted(told))), True)


class Backs(unittest.TestCase):
    def test_is_back_and_fewest_back(self):
        sizes = {}
        for dice, world, land, ahead in samples(220):
            able = []
            for cells in subsets(ahead):
                expected = not refuses(world, land, left_out(ahead, cells))
                self.assertIs(is_back(world, land, ahead, cells), expected)
                able += [cells] if expected else []
            self.assertEqual(able[-1], tuple(sorted(ahead)))
            self.assertEqual(fewest_back(world, land, ahead), able[0])
            sizes[len(able[0])] = sizes.get(len(able[0]), 0) + 1
        self.assertTrue({0, 1, 2} <= set(sizes), sizes)

    def test_is_back_of_any_value(self):
        told = {"z": ("s",), "x": ("a",), "y": ("a", "b", "s")}
        line = (TRIANGLE[0], TRIANGLE[1][:2])
        right = [("x",), ("z",), ("x", "y"), ("x", "z"), ("y", "z"), ("x", "y", "z")]
        for cells in right:
            self.assertIs(is_back(STONES, line, told, cells), True)
        wrong = [(), ("y",), ("z", "x"), ("x", "x"), ["x"], "x", {"x": True}, ("q",), ("q", "x"), ("x", "zz")]
        wrong += [*odd_values(), *nearly(("x", "y")), *((value, "x") for value in odd_values())]
        for thing in (*wrong, *(("x", value) for value in odd_values())):
            if thing not in right:
                self.assertIs(is_back(STONES, line, told, thing), False)
        self.assertTrue(is_back(STONES, line, {"x": ("s",)}, ()))
        self.assertFalse(is_back(STONES, line, {"x": ("a",), "z": ("s",)}, ("y",)))
        self.assertTrue(is_back(LONE, ((), ()), {}, ()))

    def test_the_first_one_in_order(self):
        land = trap("bdf")
        told = {"b": ("a",), "f": ("b",), "d": ("s",), "by": ("a", "b", "s")}
        self.assertEqual(fewest_back(STONES, land, told), ("b", "f"))
        self.assertEqual(fewest_back(STONES, land, {**told, "f": ("s",), "fy": ("a",)}), ("b", "fy"))
        self.assertEqual(fewest_back(STONES, land, {**told, "f": ("s",), "bz": ("s",)}), ("b",))
        self.assertEqual(fewest_back(STONES, land, {}), ())
        self.assertEqual(fewest_back(STONES, land, {"d": ("s",)}), ())
        self.assertEqual(fewest_back(STONES, land, {"d": ("a",)}), ("d",))

    def index_of(self, many, triple):
        return next(
            index for index, row in enumerate(
                row for size in range(4) for row in itertools.combinations(range(many), size)
            ) if row == triple
        )

    def check_trap(self, many, triple):
        """Tell so many cells of which just these three are refused, each one by itself."""
        cells = [f"c{number:02d}" for number in range(many)]
        land = trap([cells[place] for place in triple])
        harmless = tuple((cell, "m") for place, cell in enumerate(cells) if place not in triple)
        land = (tuple(sorted((*land[0], *harmless))), land[1])
        told = {cell: ("a",) for cell in reversed(cells)}
        if self.index_of(many, triple) < 2000:
            self.assertEqual(fewest_back(STONES, land, told), tuple(cells[place] for place in triple))
            return True
        with self.assertRaises(TooMany) as caught:
            fewest_back(STONES, land, told)
        self.assertEqual(caught.exception.most, 2000)
        return False

    def test_just_at_two_thousand_and_just_beyond(self):
        for many in (26, 24, 30):
            rows = [row for size in range(4) for row in itertools.combinations(range(many), size)]
            self.assertEqual(len(rows[1999]), 3)
            self.assertTrue(self.check_trap(many, rows[1999]))
            self.assertFalse(self.check_trap(many, rows[2000]))
            self.assertTrue(self.check_trap(many, (0, 1, 2)))
            self.assertFalse(self.check_trap(many, (many - 3, many - 2, many - 1)))

    def test_ten_cells_are_never_too_many(self):
        cells = [f"c{number:02d}" for number in range(10)]
        land = trap(cells)
        told = {cell: ("a",) for cell in cells}
        self.assertEqual(fewest_back(STONES, land, told), tuple(cells))
        more = trap([*cells, "d"])
        with self.assertRaises(TooMany):
            fewest_back(STONES, more, {**told, "d": ("a",)})
        # 1,981 tuples have fewer than nine of eleven CELLS, and this one is the sixteenth of those that have nine.
        self.assertEqual(fewest_back(STONES, more, {**told, "d": ("s",), "c04": ("s",)}), tuple(cells[:4] + cells[5:]))
        with self.assertRaises(TooMany):
            fewest_back(STONES, more, {**told, "d": ("s",), "c03": ("s",)})

    def test_lands_of_sixty_cells(self):
        for seed in range(12):
            dice = Dice(seed)
            world = (SHORE, COAST, great_world(dice), STONES)[seed % 4]
            land = greatest_land(world, dice)
            told = {cell: dice.one(all_told(world)) for cell, mark in dice.mixed(land[0])[:dice.one([3, 26, 60])]}
            try:
                row = fewest_back(world, land, told)
                self.assertTrue(is_back(world, land, told, row))
                for cell in row:
                    rest = tuple(one for one in row if one != cell)
                    self.assertFalse(is_back(world, land, told, rest))
            except TooMany as error:
                self.assertEqual(error.most, 2000)


class Joined(unittest.TestCase):
    def test_joined(self):
        answers = {"no common tile": 0, "refused": 0, "joined": 0, "met": 0}
        for dice, world, land, one in samples(400, 5):
            other = random_ahead(world, land, dice)
            both = {cell: one.get(cell) or other[cell] for cell in sorted({**one, **other})}
            met = {cell: common_by_words(one[cell], other[cell]) for cell in one if cell in other}
            expected = {cell: met.get(cell, both[cell]) for cell in both}
            if () in met.values() or refuses(world, land, expected):
                answers["no common tile" if () in met.values() else "refused"] += 1
                with self.assertRaises(Refused):
                    joined(world, land, one, other)
            else:
                found = joined(world, land, one, other)
                self.assertEqual(list(found.items()), list(expected.items()))
                self.assertEqual(joined(world, land, other, one), expected)
                answers["joined"] += 1
                answers["met"] += any(len(one[cell]) > len(met[cell]) for cell in met)
        self.assertTrue(min(answers.values()) > 10, answers)

    def test_edges(self):
        world = (("a", "b", "c"), (), ("m",), (), (("a", "b"), ("b", "c")))
        land = ((("x", "m"), ("y", "m")), ())
        self.assertEqual(joined(world, land, {"x": ("a", "b")}, {"x": ("b", "c")}), {"x": ("b",)})
        self.assertEqual(joined(world, land, {}, {}), {})
        self.assertEqual(joined(world, land, {"y": ("a", "b", "c")}, {}), {"y": ("a", "b", "c")})
        self.assertEqual(
            list(joined(world, land, {"y": ("a",)}, {"x": ("b",)}).items()), [("x", ("b",)), ("y", ("a",))]
        )
        with self.assertRaises(Refused):
            joined(world, land, {"x": ("a", "b"), "y": ("a",)}, {"y": ("b", "c"), "x": ("b", "c")})
        with self.assertRaises(Refused):
            joined(STONES, TRIANGLE, {"x": ("a",)}, {})


class Apart(unittest.TestCase):
    def steps(self, land, cell):
        """The least numbers of TIES from this CELL to all to which they lead."""
        found = {cell: 0}
        for number in range(1, len(land[0]) + 1):
            ends = [tie[1:] for tie in land[1]] + [tie[:0:-1] for tie in land[1]]
            for begin, end in ends:
                if found.get(begin) == number - 1:
                    found.setdefault(end, number)
        return found

    def apart_by_words(self, land, number, one, other):
        return all(self.steps(land, cell).get(far, 2 * number) >= 2 * number for cell in one for far in other)

    def worlds(self):
        """Worlds that forget, and in how many steps."""
        found = {}
        for seed in range(400):
            dice = Dice(seed)
            world = random_world(dice)
            number = forgets(world)
            if number is not None and len(found.setdefault(number, [])) < 6 and world[3]:
                found[number].append(world)
        found.setdefault(2, []).append(SHORE)
        self.assertTrue({1, 2} <= set(found), set(found))
        return found

    def test_are_apart(self):
        answers = {True: 0, False: 0}
        for number, worlds in self.worlds().items():
            for seed, world in enumerate(worlds * 8):
                dice = Dice(seed)
                land = land_of(world, dice, NINE, dice.one([4, 6, 8]))
                one = {cell: world[0] for cell in dice.some(NINE, 4)}
                other = {cell: world[0][:1] for cell in dice.some(NINE, 4)}
                expected = self.apart_by_words(land, number, one, other)
                self.assertIs(are_apart(world, land, one, other), expected)
                self.assertIs(are_apart(world, land, other, one), expected)
                answers[expected] += 1
        self.assertTrue(min(answers.values()) > 40, answers)

    def test_just_far_enough(self):
        pairs = list(zip(NINE, NINE[1:]))[:6]
        ties = [("by", *pair) if pair[0] in ("c1", "c4") else ("by", *pair[::-1]) for pair in pairs]
        land = (tuple((cell, "a") for cell in NINE), tuple(sorted(ties)))
        told = {"c2": ("m",)}
        for cell, expected in (("c5", False), ("c6", True), ("c2", False), ("c1", False), ("c7", True), ("c8", True)):
            self.assertIs(are_apart(SHORE, land, told, {cell: ("m", "s", "w")}), expected)
            self.assertIs(are_apart(SHORE, land, {cell: ("w",)}, told), expected)
        self.assertIs(are_apart(SHORE, land, {}, {}), True)
        self.assertIs(are_apart(SHORE, land, told, {}), True)
        self.assertIs(are_apart(SHORE, land, {"c8": ("w",)}, {"c8": ("w",)}), False)
        self.assertIs(are_apart(SHORE, land, {"c6": ("w",), "c2": ("w",)}, {"c7": ("w",), "c3": ("w",)}), False)

    def test_no_forget(self):
        for world in (STONES, TURNS):
            for one, other in (({}, {}), ({"x": ("a",)}, {"z": ("a",)})):
                with self.assertRaises(NoForget):
                    are_apart(world, (tuple((cell, "m") for cell in "xyz"), ()), one, other)

    def test_those_that_are_apart_are_let_by_together(self):
        compared = 0
        told = 0
        for number, worlds in self.worlds().items():
            for seed, world in enumerate(worlds * 20):
                dice = Dice(seed)
                names = [f"c{place:02d}" for place in range(14)]
                land = land_of(world, dice, names, dice.one([10, 12, 14]))
                lots = all_told(world)
                one = {cell: dice.one(lots) for cell in dice.mixed(names)[:dice.one([1, 2])]}
                other = {cell: dice.one(lots) for cell in dice.mixed(names)[:dice.one([1, 2])]}
                if not are_apart(world, land, one, other):
                    continue
                looked = [left_by_words(world, land, ahead) for ahead in (one, other)]
                if None in looked:
                    continue
                self.assertEqual(joined(world, land, one, other), dict(sorted({**one, **other}.items())))
                found = look(world, land, {**one, **other})
                for cell in names:
                    parts = [lots[cell] for lots in looked if lots[cell] != world[0]]
                    self.assertLessEqual(len(parts), 1)
                    self.assertEqual(found[cell], parts[0] if parts else world[0])
                    told += len(parts)
                compared += 1
        self.assertGreater(compared, 60)
        self.assertGreater(told, 60)
