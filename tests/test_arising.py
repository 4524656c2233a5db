"""Point 21: lots that arise, stories, and the least trees that bring lots about."""

import unittest

from laidanyhow.arising import arising, grown, is_story, nodes, story
from laidanyhow.errors import TooMany
from laidanyhow.forms import is_ahead, is_land
from laidanyhow.lands import is_forest, mark_of, pieces
from tests.by_words import arising_by_words, back_by_words, common_by_words, handed_by_words, left_by_words
from tests.by_words import nodes_by_words, trees_by_words
from tests.samples import COAST, LONE, STONES, TURNS, WHEEL, WORLDS, Dice, all_told, chain_world, great_world, nearly
from tests.samples import nearly_part, odd_values, random_world

SHORE = (
    ("m", "s", "w"), (("by", (("m", "m"), ("m", "s"), ("s", "m"), ("s", "s"), ("s", "w"), ("w", "s"), ("w", "w"))),),
    ("a",), (("by", "a", "a"),), (),
)
TWO = (
    ("a", "b", "c"), (("k", (("a", "a"), ("a", "b"), ("b", "c"), ("c", "b"))),), ("m", "n"),
    (("k", "m", "m"), ("k", "m", "n")), (),
)


def samples(many):
    for seed in range(many):
        dice = Dice(seed)
        yield WORLDS[seed] if seed < len(WORLDS) else great_world(dice) if seed % 5 == 0 else random_world(dice)


def is_story_by_words(world, told, thing):
    if type(thing) is not tuple:
        return False
    found = []
    for item in thing:
        if type(item) is not tuple or len(item) != 3:
            return False
        mark, lot, how = item
        if mark not in world[2] or type(lot) is not tuple or type(how) is not tuple:
            return False
        if not any(how == able and lot == made for able, made in hows_by_words(world, told, found, mark)):
            return False
        found.append((mark, lot))
    return True


def hows_by_words(world, told, found, mark):
    """All that may be the how of an ITEM at this MARK, and the LOT that it makes, behind ITEMS of these NODES."""
    able = [(("told",), lot) for lot in told]
    for tie in world[3]:
        kind, begin, end = tie
        for source, lot in found:
            if (source, end) == (begin, mark):
                able.append((("on", tie, lot), handed_by_words(world, kind, lot)))
            if (source, begin) == (end, mark):
                able.append((("back", tie, lot), back_by_words(world, kind, lot)))
    at = [lot for source, lot in found if source == mark]
    meet = [(("meet", one, other), common_by_words(one, other)) for one in at for other in at]
    return able + [(how, lot) for how, lot in meet if lot]


class Arising(unittest.TestCase):
    def test_against_a_closing_of_its_own(self):
        most = 0
        for world in samples(120):
            expected = arising_by_words(world, all_told(world))
            self.assertEqual(arising(world), expected)
            self.assertEqual(list(arising(world)), list(world[2]))
            self.assertEqual(nodes(world), tuple((mark, lot) for mark in expected for lot in expected[mark]))
            most = max(most, len(nodes(world)))
        self.assertGreater(most, 50)

    def test_of_the_greatest_size(self):
        world = great_world(Dice(1), each_told=True)
        self.assertEqual({len(lots) for lots in arising(world).values()}, {15})

    def test_small_ones(self):
        self.assertEqual(arising(LONE), {"m": (("a",),)})
        self.assertEqual(arising(TURNS), {"m": (("a",), ("a", "b"), ("b",)), "n": (("a",), ("a", "b"), ("b",))})
        self.assertEqual(arising(STONES)["m"], (("a",), ("a", "b"), ("a", "b", "s"), ("b",), ("s",)))
        self.assertNotIn(("a", "c"), arising((*WHEEL[:3], (), WHEEL[4]))["m"])
        self.assertIn(("a", "c"), arising(WHEEL)["m"])


class Stories(unittest.TestCase):
    def test_what_story_returns(self):
        for world in samples(120):
            told = all_told(world)
            row = story(world)
            self.assertIs(is_story(world, row), True)
            self.assertTrue(is_story_by_words(world, told, row))
            self.assertEqual(sorted((mark, lot) for mark, lot, how in row), nodes_by_words(world, told))
            for many in (0, 1, len(row) // 2, len(row) - 1):
                self.assertIs(is_story(world, row[:many]), True)

    def test_stories_that_are_spoilt(self):
        answers = [0, 0]
        for seed, world in enumerate((TWO, SHORE, COAST, WHEEL, great_world(Dice(3)), great_world(Dice(8)))):
            dice = Dice(seed)
            told = all_told(world)
            row = story(world)
            places = range(len(row)) if len(row) < 20 else [dice.below(len(row)) for _ in range(8)]
            for place in places:
                mark, lot, how = row[place]
                items = [row[place - 1], (mark, lot, ("told",)), (mark, world[0], how), (world[2][-1], lot, how)]
                items += [(mark, lot, (how[0], *more)) for more in (how[:0:-1], (lot, lot), how[1:] * 2)]
                items += [(mark, lot, ("on", tie, source)) for tie in world[3] for source in arising(world)[tie[1]]]
                items += [(mark, lot, ("back", tie, source)) for tie in world[3] for source in arising(world)[tie[2]]]
                items += [(mark, lot, ("meet", lot, other)) for other in arising(world)[mark]]
                rows = [row[:place] + (item, *row[place + 1:]) for item in dice.mixed(items)[:12]]
                rows += [row[:place] + row[place + 1:], row[:place + 1] + row[place:], row[place:] + row[:place]]
                for thing in rows:
                    answer = is_story_by_words(world, told, thing)
                    self.assertIs(is_story(world, thing), answer)
                    answers[answer] += 1
        self.assertTrue(min(answers) > 100, answers)

    def test_each_how(self):
        told = ("m", ("a",), ("told",))
        on = ("m", ("a", "b"), ("on", ("k", "m", "m"), ("a",)))
        there = ("n", ("a", "b"), ("on", ("k", "m", "n"), ("a",)))
        back = ("m", ("a", "c"), ("back", ("k", "m", "n"), ("b",)))
        at_n = ("n", ("b",), ("told",))
        meet = ("m", ("a",), ("meet", ("a", "b"), ("a", "c")))
        for row, answer in (
            ((told, on, there, at_n, back, meet), True),
            ((told, at_n, back, on, meet), True),
            ((on,), False),
            ((told, on, on, told), True),
            ((told, back), False),
            ((told, on, meet), False),
            ((told, ("m", ("a",), ("meet", ("a",), ("a",)))), True),
            ((told, ("m", ("b",), ("told",)), ("m", (), ("meet", ("a",), ("b",)))), False),
            ((told, ("m", (), ("told",))), False),
            ((("m", ("a",), ("meet", ("a",), ("a",))),), False),
            ((told, ("n", ("a",), ("meet", ("a",), ("a",)))), False),
            ((told, ("n", ("a", "b"), ("on", ("k", "m", "m"), ("a",)))), False),
            ((told, ("m", ("a", "b"), ("on", ("k", "n", "m"), ("a",)))), False),
            ((told, ("m", ("a", "b"), ("back", ("k", "m", "m"), ("a",)))), False),
            ((told, ("m", ("a",), ("back", ("k", "m", "m"), ("a",)))), True),
            ((("m", ("a", "b"), ("told",)),), False),
            ((("m", ("a",), ("told", "told")),), False),
            ((("m", ("a",), ["told"]),), False),
            ((["m", ("a",), ("told",)],), False),
            ([told], False),
            ((), True),
        ):
            self.assertIs(is_story(TWO, row), answer, row)
            self.assertIs(is_story_by_words(TWO, all_told(TWO), row), answer, row)

    def test_any_value(self):
        row = (("n", ("b",), ("told",)), ("m", ("a", "c"), ("back", ("k", "m", "n"), ("b",))))
        row += (("m", ("a",), ("told",)), ("m", ("a",), ("meet", ("a", "c"), ("a",))))
        told = all_told(TWO)
        things = [*odd_values(), *nearly(row), *((thing,) for thing in odd_values())]
        things += [row[:3] + (("m", ("a",), thing),) for thing in (*odd_values(), *nearly_part(row[3][2]))]
        things += [row[:3] + (thing,) for thing in nearly_part(row[3])]
        things += [row[:1] + (thing,) for thing in nearly_part(row[1])]
        for part in odd_values():
            things += [row[:1] + (("m", ("a", "c"), ("back", *how)),) for how in ((part, ("b",)), (row[1][2][1], part))]
            things += [row[:3] + (("m", part, ("meet", ("a",), ("a",))), ("m", ("a",), ("meet", part, part)))]
            things += [row[:3] + ((part, ("a",), ("told",)), ("m", ("a",), ("meet", ("a",), part)))]
        for thing in things:
            self.assertIs(is_story(TWO, thing), is_story_by_words(TWO, told, thing), thing)


class Grown(unittest.TestCase):
    def check(self, world, node, result):
        """Whether a result is what grown may return but for how many CELLS it has; return these."""
        land, ahead, cell = result
        self.assertTrue(is_land(world, land))
        self.assertTrue(is_ahead(world, land, ahead))
        self.assertEqual(len(pieces(land)), 1)
        self.assertTrue(is_forest(land))
        self.assertEqual(mark_of(land, cell), node[0])
        if len(land[0]) < 30:
            self.assertEqual(left_by_words(world, land, ahead)[cell], node[1])
        return len(land[0])

    def test_as_few_cells_as_any_such_tree(self):
        sizes = set()
        for world in samples(50):
            told = all_told(world)
            trees = trees_by_words(world, told, 7)
            for node in nodes_by_words(world, told):
                many = self.check(world, node, grown(world, node))
                least = [size for size in range(1, 8) if node[1] in trees[0, node[0], size]]
                self.assertEqual([many] if many < 8 else [], least[:1])
                sizes.add(many)
        self.assertGreater(max(sizes), 7)

    def test_nothing_is_told_where_nothing_need_be(self):
        self.assertEqual(grown(SHORE, ("a", ("m", "s", "w")))[1], {})
        self.assertEqual(grown(LONE, ("m", ("a",)))[1], {})
        self.assertEqual(set(grown(SHORE, ("a", ("s", "w")))[1].values()), {("w",)})

    def test_the_sum_at_a_meeting(self):
        world = (*SHORE[:4], ())
        self.assertEqual(len(grown(world, ("a", ("s",)))[0][0]), 1)
        self.assertEqual(len(grown(world, ("a", ("m", "s")))[0][0]), 2)

    def test_too_many(self):
        world = chain_world(302)
        for number, many in ((0, 2), (1, 3), (100, 102), (298, 300)):
            node = ("m%03d" % number, ("a", "b"))
            self.assertEqual(self.check(world, node, grown(world, node)), many)
        for number in (299, 300, 301):
            with self.assertRaises(TooMany) as caught:
                grown(world, ("m%03d" % number, ("a", "b")))
            self.assertEqual(caught.exception.most, 300)
