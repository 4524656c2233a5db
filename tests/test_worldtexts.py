"""Point 14: texts of worlds."""

import unittest

from laidanyhow.errors import NoText, NoWorld, Wrong
from laidanyhow.worldtexts import read_world, world_text
from tests.samples import COAST, LONE, STONES, WORLDS, Dice, odd_values, random_world

STONES_TEXT = """tile a
tile b
tile s
kind r
fits r a b
fits r b a
fits r s s
mark m
tie r m m
told a b"""

# Texts at fault, with the line and the column that are told.
FAULTS = [
    ("tale a", 0, 0),
    ("Tile a", 0, 0),
    ("a tile", 0, 0),
    ("cell a m", 0, 0),
    ("ahead tile a", 0, 0),
    ("tile", 0, 1),
    ("kind", 0, 1),
    ("mark", 0, 1),
    ("fits", 0, 1),
    ("tie", 0, 1),
    ("told", 0, 1),
    ("tile a b", 0, 2),
    ("kind a b", 0, 2),
    ("mark a b c", 0, 2),
    ("tile A b", 0, 1),
    ("tile 2a", 0, 1),
    ("tile abcdefghijklm", 0, 1),
    ("tile\ta", 0, 0),
    ("tile a\ntile b\ntile a", 2, 1),
    ("tile a\ntile b\ntile a b", 2, 1),
    ("kind a\nkind a", 1, 1),
    ("mark a\n\n#\nmark a", 3, 1),
    ("tile a\nkind a\nmark a\ntile a", 3, 1),
    ("tile a\nmark m\nkind r\nfits q a a", 3, 1),
    ("tile a\nmark m\nkind r\nfits a a a", 3, 1),
    ("tile a\nmark m\nkind r\nfits q b c d", 3, 1),
    ("tile a\nmark m\nkind r\nfits r", 3, 2),
    ("tile a\nmark m\nkind r\nfits r b", 3, 2),
    ("tile a\nmark m\nkind r\nfits r b a", 3, 2),
    ("tile a\nmark m\nkind r\nfits r m a", 3, 2),
    ("tile a\nmark m\nkind r\nfits r a", 3, 3),
    ("tile a\nmark m\nkind r\nfits r a b", 3, 3),
    ("tile a\nmark m\nkind r\nfits r a b a", 3, 3),
    ("tile a\nmark m\nkind r\nfits r a a a", 3, 4),
    ("tile a\nmark m\nkind r\nfits r a a\nfits r a a", 4, 3),
    ("tile a\nmark m\nkind r\nfits r a a\nfits r a a a", 4, 3),
    ("fits r a a\ntile a\nmark m\nkind r\nfits r a a", 4, 3),
    ("tile a\nmark m\nkind r\ntie q m m", 3, 1),
    ("tile a\nmark m\nkind r\ntie m m m", 3, 1),
    ("tile a\nmark m\nkind r\ntie r a m", 3, 2),
    ("tile a\nmark m\nkind r\ntie r m", 3, 3),
    ("tile a\nmark m\nkind r\ntie r m a", 3, 3),
    ("tile a\nmark m\nkind r\ntie r m m m", 3, 4),
    ("tile a\nmark m\nkind r\ntie r m m\ntie r m m", 4, 3),
    ("tile a\nmark m\nkind r\ntie r m m\ntie r m m q", 4, 3),
    ("tile a\nmark m\ntold b", 2, 1),
    ("tile a\nmark m\ntold m", 2, 1),
    ("tile a\nmark m\ntold a b", 2, 2),
    ("tile a\nmark m\ntold a a", 2, 2),
    ("tile a\ntile b\nmark m\ntold b a b", 3, 3),
    ("tile a\ntile b\nmark m\ntold b a c b", 3, 3),
    ("tile a\ntile b\nmark m\ntold a b\ntold b a", 4, 2),
    ("tile a\ntile b\nmark m\ntold b a\ntold a b", 4, 2),
    ("tile a\ntile b\nmark m\ntold b a\ntold b a", 4, 2),
    ("tile a\ntile b\nmark m\ntold a\ntold b\ntold a", 5, 1),
    ("tile a\ntile b\nmark m\ntold a b\ntold b a b", 4, 3),
    # The first line at fault is told, though a later one has its fault further to the left.
    ("tile a\nmark m q\ntale", 1, 2),
    # A second word counts even in a line that is at fault itself, and in one that comes later.
    ("fits R a a\nkind R\ntile a\nmark m", 1, 1),
    ("told B\ntile B\nmark m", 1, 1),
    ("tie r m m\nkind r q\nmark m\ntile a", 1, 2),
    ("told a\n  tile  a  b ", 1, 2),
    # What a remark hides does not count.
    ("told a # tile a\ntile # a", 0, 1),
    ("tile a\nmark m\ntold #a", 2, 1),
    ("tile a\nmark m\nkind r\nfits r a#a", 3, 3),
]

# Texts without a tile or without a mark: the column is 0, the line the number of the lines.
LACKING = [
    ("", 1),
    ("\n", 2),
    ("# tile a\n\n  \n", 4),
    ("tile a", 1),
    ("mark m\n", 2),
    ("kind r", 1),
    ("tile a\ntold a\nkind r\nfits r a a", 4),
    ("mark m\nkind r\ntie r m m", 3),
]


class WorldText(unittest.TestCase):
    def test_text(self):
        self.assertEqual(world_text(STONES), STONES_TEXT)
        self.assertEqual(world_text(LONE), "tile a\nmark m")

    def test_order_of_several_kinds(self):
        rows = world_text(COAST).split("\n")
        self.assertEqual(rows[:5], ["tile meadow", "tile sand", "tile water", "kind by", "fits by meadow meadow"])
        self.assertEqual(rows[10:13], ["fits by water water", "kind near", "fits near meadow sand"])
        self.assertEqual(rows[16:20], ["kind seldom", "fits seldom sand sand", "mark any", "mark shore"])
        self.assertEqual(rows[20], "tie by any any")
        self.assertEqual(rows[-2:], ["told meadow sand", "told sand water"])


class ReadWorld(unittest.TestCase):
    def test_there_and_back(self):
        for world in WORLDS:
            self.assertEqual(read_world(world_text(world)), world)
        for seed in range(100):
            world = random_world(Dice(seed))
            self.assertEqual(read_world(world_text(world)), world)

    def test_any_order_remarks_and_blanks(self):
        for seed in range(200):
            dice = Dice(seed)
            world = random_world(dice)
            rows = []
            for row in dice.mixed(world_text(world).split("\n")):
                words = row.split(" ")
                if words[0] == "told":
                    words = ["told", *dice.mixed(words[1:])]
                blanks = [" " * (1 + dice.below(3)) for _ in words]
                row = "".join(blank + word for blank, word in zip(blanks, words))
                row = row[dice.below(len(blanks[0]) + 1):] + " " * dice.below(3)
                rows.append(row + dice.one(["", "#", "# tile a", " # told q ## x"]))
                if dice.below(3) == 0:
                    rows.append(dice.one(["", "   ", "#", "  # mark Q", "#tile a"]))
            self.assertEqual(read_world("\n".join(rows)), world)

    def test_names_like_the_words_of_texts(self):
        text = "tile tile\ntile told\nkind kind\nfits kind tile told\nfits kind told tile\nmark mark\nmark tie\n"
        text += "tie kind mark tie\ntold told tile"
        self.assertEqual(read_world(text), (
            ("tile", "told"), (("kind", (("tile", "told"), ("told", "tile"))),), ("mark", "tie"),
            (("kind", "mark", "tie"),), (("tile", "told"),),
        ))

    def test_order_of_what_is_read(self):
        text = "tile b\ntile a\nmark n\nmark m\nkind s\nkind r\ntold b\ntold b a\nfits r b b\nfits r a a\nfits s a b"
        self.assertEqual(read_world(text + "\ntie r n m\ntie r m m"), (
            ("a", "b"), (("r", (("a", "a"), ("b", "b"))), ("s", (("a", "b"),))), ("m", "n"),
            (("r", "m", "m"), ("r", "n", "m")), (("a", "b"), ("b",)),
        ))

    def test_no_text(self):
        for text, line, column in FAULTS:
            with self.subTest(text):
                with self.assertRaises(NoText) as caught:
                    read_world(text)
                self.assertEqual((caught.exception.line, caught.exception.column), (line, column))

    def test_no_tile_or_no_mark(self):
        for text, line in LACKING:
            with self.subTest(text):
                with self.assertRaises(NoText) as caught:
                    read_world(text)
                self.assertEqual((caught.exception.line, caught.exception.column), (line, 0))

    def test_no_world(self):
        for rows, fault in (
            ("tile a\nmark m\nkind r\ntie r m m", ("partner", "r", "a")),
            ("tile a\ntile b\nmark m\nkind r\nfits r a a\nfits r a b\ntie r m m", ("partner", "r", "b")),
            ("tile a\nmark m\nkind s\nkind r\nfits r a a\ntie s m m\ntie r m m", ("partner", "s", "a")),
        ):
            with self.assertRaises(NoWorld) as caught:
                read_world(rows)
            self.assertEqual(caught.exception.fault, fault)

    def test_which_error_comes_first(self):
        with self.assertRaises(NoText):
            read_world("tile a\nkind r\ntold a a")
        with self.assertRaises(NoText) as caught:
            read_world("mark m\nkind r\ntie r m m\n")
        self.assertEqual((caught.exception.line, caught.exception.column), (4, 0))

    def test_wrong(self):
        for thing in odd_values():
            if isinstance(thing, str):
                continue
            with self.assertRaises(Wrong) as caught:
                read_world(thing)
            self.assertEqual(caught.exception.place, 0)

    def test_any_string(self):
        for thing in odd_values():
            if isinstance(thing, str):
                with self.assertRaises(NoText):
                    read_world(thing)

    def test_each_word_exchanged(self):
        """Each word of a text is left out, doubled, or exchanged: the line that is told is never a later one."""
        rows = world_text(STONES).split("\n")
        for line, row in enumerate(rows):
            words = row.split(" ")
            for column in range(len(words)):
                for part in ([], [words[column]] * 2, ["A"]):
                    other = " ".join(words[:column] + part + words[column + 1:])
                    try:
                        read_world("\n".join(rows[:line] + [other] + rows[line + 1:]))
                    except NoText as error:
                        self.assertLessEqual(error.column, len(words) + 1)
                    except NoWorld as error:
                        self.assertEqual(error.fault[0], "partner")
