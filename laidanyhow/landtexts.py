"""Texts of lands, of what is told ahead, of tiles that are laid, and pictures of LOTS [16]."""

from laidanyhow.errors import Wrong
from laidanyhow.forms import is_land, is_name, is_told, is_world
from laidanyhow.lands import cells_of, place_name
from laidanyhow.worlds import kinds_of
from laidanyhow.worldtexts import faultless_rows, first_wrong, rows_of, rows_with, second_words, text_of

WORDS_OF_CELL = 3
WORDS_OF_TIE = 4
LEAST_OF_AHEAD = 3
WORDS_OF_LAY = 3


def land_text(land):
    return text_of([("cell", *row) for row in land[0]] + [("tie", *row) for row in land[1]])


def ahead_text(ahead):
    return text_of([("ahead", cell, *ahead[cell]) for cell in sorted(ahead)])


def tiles_text(tiles):
    return text_of([("lay", cell, tiles[cell]) for cell in sorted(tiles)])


def picture(rows, lots):
    drawn = []
    for i, row in enumerate(rows):
        drawn.append(["/".join(lots[place_name(i, j)]) for j in range(len(row))])
    return text_of(drawn)


def read_land(world, text):
    _check(is_world(world), 0)
    _check(isinstance(text, str), 1)
    rows = rows_of(text)
    marks = _marks_told(rows)
    told = faultless_rows(rows, lambda words, earlier: _fault_column_of_land(world, marks, words, earlier))
    cells = [(cell, mark) for _, cell, mark in rows_with(told, "cell")]
    ties = [(kind, one, other) for _, kind, one, other in rows_with(told, "tie")]
    return (tuple(sorted(cells)), tuple(sorted(ties)))


def read_ahead(world, land, text):
    _check_land_and_text(world, land, text)
    cells = cells_of(land)
    told = faultless_rows(rows_of(text), lambda words, earlier: _fault_column_of_ahead(world, cells, words, earlier))
    return {words[1]: tuple(sorted(words[2:])) for words in sorted(told)}


def read_tiles(world, land, text):
    _check_land_and_text(world, land, text)
    cells = cells_of(land)
    told = faultless_rows(rows_of(text), lambda words, earlier: _fault_column_of_tiles(world, cells, words, earlier))
    return {words[1]: words[2] for words in sorted(told)}


def _check(is_right, place):
    if not is_right:
        raise Wrong(place)


def _check_land_and_text(world, land, text):
    _check(is_world(world), 0)
    _check(is_land(world, land), 1)
    _check(isinstance(text, str), 2)


def _marks_told(rows):
    """Return a dict from the second words of the lines of CELLS to the third ones of the first such lines."""
    marks = {}
    for words in rows_with(rows, "cell"):
        if len(words) > 1 and words[1] not in marks:
            marks[words[1]] = words[2] if len(words) > 2 else None
    return marks


def _fault_column_of_land(world, marks, words, earlier):
    if words[0] == "cell":
        return first_wrong(
            words, WORDS_OF_CELL, WORDS_OF_CELL, lambda column: _is_cell_word(world, words, column, earlier)
        )
    if words[0] == "tie":
        return first_wrong(
            words, WORDS_OF_TIE, WORDS_OF_TIE, lambda column: _is_tie_word(world, marks, words, column, earlier)
        )
    return 0


def _is_cell_word(world, words, column, earlier):
    if column == 1:
        return is_name(words[1]) and words[1] not in second_words(earlier, "cell")
    return words[2] in world[2]


def _is_tie_word(world, marks, words, column, earlier):
    if column == 1:
        return words[1] in kinds_of(world)
    if words[column] not in marks:
        return False
    if column == 2:
        return True
    kind, one, other = words[1:4]
    return one != other and (kind, marks[one], marks[other]) in world[3] and words[:4] not in earlier


def _fault_column_of_ahead(world, cells, words, earlier):
    def is_right(column):
        if column == 1:
            return _is_new_cell(cells, words, earlier)
        if words[column] not in world[0] or words[column] in words[2:column]:
            return False
        return column < len(words) - 1 or is_told(world, tuple(sorted(words[2:])))

    return first_wrong(words, LEAST_OF_AHEAD, len(words), is_right) if words[0] == "ahead" else 0


def _fault_column_of_tiles(world, cells, words, earlier):
    def is_right(column):
        return _is_new_cell(cells, words, earlier) if column == 1 else words[column] in world[0]

    return first_wrong(words, WORDS_OF_LAY, WORDS_OF_LAY, is_right) if words[0] == "lay" else 0


def _is_new_cell(cells, words, earlier):
    """Tell whether the second word is a CELL that stands in no line ahead of this one."""
    return words[1] in cells and words[1] not in [row[1] for row in earlier]
