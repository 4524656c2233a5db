"""Points 3 and 4: arguments stay, what is returned is new, equal arguments give equal results in any order of calls."""

import copy
import unittest

from laidanyhow import forms, worlds, worldtexts
from laidanyhow.errors import TileError
from tests.samples import COAST, STONES, TRIANGLE, WHEEL

TORN = (
    ("a", "b", "c"), (("r", (("a", "a"), ("a", "b"), ("b", "c"))),), ("m",), (("r", "m", "m"),),
    (("b", "c"), ("c",)),
)


def calls():
    """New calls each time, as tuples of a function and its arguments."""
    return [
        (forms.is_world, STONES),
        (forms.is_world, [STONES, {}]),
        (forms.is_lot, STONES, ["a", "b"]),
        (forms.is_told, STONES, ("a", "b")),
        (forms.is_land, STONES, TRIANGLE),
        (forms.is_ahead, STONES, TRIANGLE, {"z": ("a",), "x": ("a", "b"), "q": []}),
        (forms.are_lots, STONES, TRIANGLE, {"z": ("a",), "x": ("a", "b"), "y": ("s",)}),
        (forms.is_tiling, STONES, TRIANGLE, {"z": "a", "x": "b", "y": "s"}),
        (forms.are_picks, STONES, TRIANGLE, [("x", "a")]),
        (worlds.world_fault, [list(STONES), {"a": []}]),
        (worlds.world_fault, TORN),
        (worlds.checked_world, TORN),
        (worlds.checked_world, COAST),
        (worlds.kinds_of, COAST),
        (worlds.couples_of, COAST, "near"),
        (worlds.fits, COAST, "near", "water", "sand"),
        (worlds.partners, COAST, "near", "water"),
        (worlds.partners_ahead, COAST, "near", "water"),
        (worlds.told_lots, COAST),
        (worlds.common_tiles, ("a", "b"), ("b", "c")),
        (worlds.handed, WHEEL, ("r", "m", "n"), ("a", "b")),
        (worlds.handed_back, WHEEL, ("r", "m", "n"), ("a", "b")),
        (worlds.holds, WHEEL, "r", ("a", "b"), ("b", "c")),
        (worlds.turned_world, COAST),
        (worlds.renamed_world, STONES, {"s": "a", "b": "c", "a": "b"}),
        (worlds.trimmed_world, TORN),
        (worldtexts.world_text, COAST),
        (worldtexts.read_world, worldtexts.world_text(COAST)),
        (worldtexts.read_world, "tile a\nmark m\ntold a a"),
        (worldtexts.read_world, ["tile a"]),
    ]


def answer(call):
    """What a call returns or raises, as text."""
    try:
        return repr(call[0](*call[1:]))
    except TileError as error:
        return repr((error.__class__.__name__, vars(error)))


def parts(thing):
    """All lists and dicts in a value, itself too."""
    if isinstance(thing, (list, dict)):
        yield thing
    if isinstance(thing, (list, tuple)):
        for part in thing:
            yield from parts(part)
    if isinstance(thing, dict):
        for key in thing:
            yield from parts(key)
            yield from parts(thing[key])


def spoil(thing):
    for part in list(parts(thing)):
        if isinstance(part, list):
            part.append("spoilt")
        else:
            part["spoilt"] = True


class Points(unittest.TestCase):
    def test_arguments_are_not_changed(self):
        for call in calls():
            before = copy.deepcopy(call[1:])
            shown = repr(before)
            answer(call)
            self.assertEqual(repr(call[1:]), shown)

    def test_equal_results_in_any_order_of_calls(self):
        first = [answer(call) for call in calls()]
        again = [answer(call) for call in reversed(calls())]
        self.assertEqual(again[::-1], first)
        self.assertEqual([answer(call) for call in calls()], first)

    def test_equal_results_of_dicts_in_another_order(self):
        for call in calls():
            turned = [
                {key: arg[key] for key in reversed(list(arg))} if isinstance(arg, dict) else arg for arg in call[1:]
            ]
            self.assertEqual(answer((call[0], *turned)), answer(call))

    def test_results_are_new(self):
        for call in calls():
            shown = answer(call)
            try:
                result = call[0](*call[1:])
            except TileError:
                continue
            inner = [id(part) for part in parts(result)]
            self.assertEqual(len(set(inner)), len(inner))
            self.assertFalse(set(inner) & {id(part) for part in parts(call[1:])})
            before = repr(call[1:])
            spoil(result)
            self.assertEqual(repr(call[1:]), before)
            self.assertEqual(answer(call), shown)

    def test_keys_ascend(self):
        for call in calls():
            try:
                result = call[0](*call[1:])
            except TileError:
                continue
            for part in parts(result):
                if isinstance(part, dict):
                    self.assertEqual(list(part), sorted(part))

    def test_truths_are_truths(self):
        for call in calls():
            if call[0].__name__.startswith(("is_", "are_")) or call[0].__name__ in ("fits", "holds"):
                self.assertIs(type(call[0](*call[1:])), bool)
