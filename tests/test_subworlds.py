"""Point 30: worlds with fewer tiles or fewer couples, and which of them are sure or free."""

import itertools
import unittest

from laidanyhow.errors import NoWorld, TooMany
from laidanyhow.free import is_free
from laidanyhow.guides import is_sure
from laidanyhow.subworlds import fewest_free, fewest_sure, greatest_free, greatest_sure, kept, without
from laidanyhow.worlds import world_fault
from tests.samples import COAST, LONE, STONES, TURNS, WORLDS, Dice, great_world, random_world, world_by_words

SHORE = (
    ("m", "s", "w"), (("by", (("m", "m"), ("m", "s"), ("s", "m"), ("s", "s"), ("s", "w"), ("w", "s"), ("w", "w"))),),
    ("a",), (("by", "a", "a"),), (),
)
APART = (*STONES[:4], ())
TWO = (("p", "q"), (("by", (("p", "q"), ("q", "p"))),), ("a",), (("by", "a", "a"),), ())
NEAR = (
    ("a", "b", "c"), (("by", (("a", "a"), ("a", "b"), ("b", "a"), ("b", "c"), ("c", "b"))),), ("a",),
    (("by", "a", "a"),), (),
)
UNLIKE = tuple((one, other) for one in "abc" for other in "abc" if one != other)
THREE = (("a", "b", "c"), (("r", UNLIKE),), ("m",), (("r", "m", "m"),), ())
SMALL = (*WORLDS, SHORE, APART, TWO, NEAR, THREE)


def samples(many):
    for seed in range(many):
        dice = Dice(seed)
        yield dice, SMALL[seed // 2 % len(SMALL)] if seed % 2 else random_world(dice)


def parts(things):
    """All tuples of some of these things, shorter ones first, those of one length in order."""
    for size in range(len(things) + 1):
        yield from itertools.combinations(things, size)


def kept_by_words(world, lot):
    tables = tuple((kind, tuple(row for row in couples if set(row) <= set(lot))) for kind, couples in world[1])
    return (lot, tables, world[2], world[3], tuple(one for one in world[4] if set(one) <= set(lot)))


def couples_by_words(world):
    return [(kind, one, other) for kind, couples in world[1] for one, other in couples]


def without_by_words(world, lack):
    tables = tuple(
        (kind, tuple(row for row in couples if (kind, *row) not in lack)) for kind, couples in world[1]
    )
    return (world[0], tables, *world[2:])


def world_of(couples, told):
    """A world of one kind with these couples, one mark, and this told."""
    rows = tuple(sorted((row[0], row[1]) for row in couples.split()))
    return (tuple(sorted({tile for row in rows for tile in row})), (("r", rows),), ("m",), (("r", "m", "m"),), told)


class FewerTiles(unittest.TestCase):
    def test_kept(self):
        answers = {True: 0, False: 0}
        for dice, world in samples(160):
            for lot in list(parts(world[0]))[1:]:
                expected = kept_by_words(world, lot)
                if world_by_words(expected):
                    self.assertEqual(kept(world, lot), expected)
                else:
                    with self.assertRaises(NoWorld) as caught:
                        kept(world, lot)
                    self.assertEqual(caught.exception.fault, world_fault(expected))
                    self.assertEqual(caught.exception.fault[0], "partner")
                answers[world_by_words(expected)] += 1
        self.assertTrue(min(answers.values()) > 150, answers)

    def test_kept_of_each_part(self):
        world = (("a", "b", "c"), (("k", (("a", "b"), ("b", "a"), ("c", "c"))), ("l", (("a", "c"),))), ("m", "n"),
                 (("k", "m", "n"),), (("a", "b"), ("a", "c"), ("c",)))
        self.assertEqual(
            kept(world, ("a", "b")),
            (("a", "b"), (("k", (("a", "b"), ("b", "a"))), ("l", ())), ("m", "n"), (("k", "m", "n"),), (("a", "b"),))
        )
        self.assertEqual(
            kept(world, ("c",)), (("c",), (("k", (("c", "c"),)), ("l", ())), ("m", "n"), (("k", "m", "n"),), (("c",),))
        )
        self.assertEqual(kept(world, world[0]), world)
        for lot, tile in ((("a",), "a"), (("a", "c"), "a"), (("b", "c"), "b")):
            with self.assertRaises(NoWorld) as caught:
                kept(world, lot)
            self.assertEqual(caught.exception.fault, ("partner", "k", tile))

    def greatest_by_words(self, world, is_right):
        lots = [lot for lot in parts(world[0]) if lot and world_by_words(kept_by_words(world, lot))]
        right = [lot for lot in lots if is_right(kept_by_words(world, lot))]
        return tuple(sorted(lot for lot in right if not any(set(lot) < set(other) for other in right)))

    def test_greatest(self):
        many = {}
        for dice, world in samples(160):
            sure = self.greatest_by_words(world, is_sure)
            free = self.greatest_by_words(world, is_free)
            self.assertEqual((greatest_sure(world), greatest_free(world)), (sure, free))
            for row in (sure, free):
                many[len(row)] = many.get(len(row), 0) + 1
        self.assertTrue({0, 1, 2} <= set(many), many)

    def test_greatest_at_their_edges(self):
        self.assertEqual([greatest_sure(TWO), greatest_free(TWO)], [(), ()])
        self.assertEqual([greatest_sure(LONE), greatest_free(LONE)], [(("a",),), (("a",),)])
        self.assertEqual([greatest_sure(SHORE), greatest_free(SHORE)], [(("m", "s", "w"),)] * 2)
        pairs = (("a", "a"), ("a", "b"), ("b", "a"), ("b", "c"), ("c", "b"), ("c", "c"), ("d", "d"))
        world = (("a", "b", "c", "d"), (("r", pairs),), ("m",), (("r", "m", "m"),), ())
        self.assertEqual(greatest_free(world), self.greatest_by_words(world, is_free))
        # Shorter ones stand among longer ones.
        world = world_of("aa ab bc ca cd db dd", ())
        self.assertEqual(greatest_sure(world), (("a", "b", "c"), ("a", "d"), ("b", "c", "d")))
        # What is right of a LOT need not be right of a part of it.
        self.assertEqual([greatest_sure(APART), greatest_free(APART)], [(("a", "b", "s"),), (("s",),)])


class FewerCouples(unittest.TestCase):
    def test_without(self):
        answers = {True: 0, False: 0}
        for dice, world in samples(160):
            couples = couples_by_words(world)
            for lack in [(), tuple(couples)] + [tuple(dice.some(couples, part)) for part in (2, 4, 4, 8, 8)]:
                expected = without_by_words(world, lack)
                if world_by_words(expected):
                    self.assertEqual(without(world, lack), expected)
                else:
                    with self.assertRaises(NoWorld) as caught:
                        without(world, lack)
                    self.assertEqual(caught.exception.fault, world_fault(expected))
                answers[world_by_words(expected)] += 1
        self.assertTrue(min(answers.values()) > 150, answers)

    def test_couples_of_one_kind_stay_in_another(self):
        world = (("a", "b"), (("k", (("a", "a"), ("a", "b"), ("b", "b"))), ("l", (("a", "b"),))), ("m",),
                 (("k", "m", "m"),), (("a",),))
        self.assertEqual(without(world, (("k", "a", "b"),))[1], (("k", (("a", "a"), ("b", "b"))), ("l", (("a", "b"),))))
        self.assertEqual(without(world, (("l", "a", "b"),)), (("a", "b"), (world[1][0], ("l", ())), *world[2:]))
        self.assertEqual(without(world, ()), world)
        with self.assertRaises(NoWorld) as caught:
            without(world, (("k", "a", "b"), ("k", "b", "b")))
        self.assertEqual(caught.exception.fault, ("partner", "k", "b"))

    def fewest_by_words(self, world, is_right):
        """The first right LACK, None, or "too many"."""
        for index, lack in enumerate(parts(couples_by_words(world))):
            if index == 200:
                return "too many"
            part = without_by_words(world, lack)
            if world_by_words(part) and is_right(part):
                return lack
        return None

    def check(self, world):
        found = []
        for fewest, is_right in ((fewest_sure, is_sure), (fewest_free, is_free)):
            expected = self.fewest_by_words(world, is_right)
            if expected == "too many":
                with self.assertRaises(TooMany) as caught:
                    fewest(world)
                self.assertEqual(caught.exception.most, 200)
            else:
                self.assertEqual(fewest(world), expected)
            found.append(expected)
        return found

    def test_fewest(self):
        answers = {}
        for dice, world in samples(120):
            for found in self.check(world):
                key = len(found) if type(found) is tuple else found
                answers[key] = answers.get(key, 0) + 1
        self.assertTrue({None, "too many", 0, 1} <= set(answers), answers)

    def test_lacks_of_more_couples(self):
        for world, sure, free in (
            (world_of("ab aa bb bc ca", ()), 1, None),
            (world_of("aa ab ba bc cc", (("b", "c"),)), None, 1),
            (world_of("aa ab ba bc cb cc", ()), 1, 2),
            (world_of("aa ac bc bd cd db", (("a", "c"), ("b", "d"))), 2, None),
            (world_of("ab ac bc bd ca dc dd", (("a", "c"),)), 3, None),
            (world_of("ab ad bc ca cb cd db dd", (("b", "c"), ("b", "d"))), 4, None),
        ):
            found = self.check(world)
            if sure is not None:
                self.assertEqual(len(found[0]), sure)
            if free is not None:
                self.assertEqual(len(found[1]), free)

    def test_couples_of_no_pattern_tie(self):
        idle = tuple((one, other) for one in "ab" for other in "ab")
        for many in (0, 1, 2, 3):
            world = (("a", "b"), (("k", idle[:many]), ("r", (("a", "b"), ("b", "a")))), ("m",), (("r", "m", "m"),), ())
            self.assertEqual(self.check(world), [None, None])
        self.assertEqual(self.check((*world[:3], (), ())), [(), ()])

    def test_just_at_two_hundred(self):
        # 128 LACKS of seven COUPLES are never too many, 256 of eight are: these two have no right one.
        idle = tuple((one, other) for one in "ab" for other in "ab")
        for more, expected in ((("l", idle[:1]), None), (("l", idle[:2]), "too many")):
            tables = (("k", idle), more, ("r", (("a", "b"), ("b", "a"))))
            world = (("a", "b"), tables, ("m",), (("r", "m", "m"),), ())
            self.assertEqual(self.check(world), [expected, expected])

    def test_right_ones_close_to_the_two_hundredth(self):
        nine = tuple((one, other) for one in "abc" for other in "abc")
        free = world_of("aa ab ba bc cb cc", ())
        sure = world_of("aa ac bc bd cd db", (("a", "c"), ("b", "d")))
        tried = set()
        for whole, place, lack in (
            (free, 1, (("r", "a", "b"), ("r", "b", "a"))), (sure, 0, (("r", "a", "c"), ("r", "b", "d"))),
        ):
            self.assertEqual(self.check(whole)[place], lack)
            for ahead, behind in itertools.product(range(10), range(10)):
                world = (whole[0], (("k", nine[:ahead]), *whole[1], ("s", nine[:behind])), *whole[2:])
                index = next(index for index, row in enumerate(parts(couples_by_words(world))) if row == lack)
                if index in range(195, 205) and index not in tried:
                    tried.add(index)
                    self.assertEqual(self.check(world)[place], lack if index < 200 else "too many")
        self.assertTrue({199, 200} <= tried, tried)

    def test_the_greatest_sizes(self):
        for seed in range(4):
            dice = Dice(seed)
            world = (great_world(dice), great_world(dice, each_told=True), COAST, TURNS)[seed]
            self.assertEqual(greatest_sure(world), FewerTiles.greatest_by_words(self, world, is_sure))
            self.assertEqual(greatest_free(world), FewerTiles.greatest_by_words(self, world, is_free))
            self.check(world)
