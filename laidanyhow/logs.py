"""Logs: a House is opened again from its LOG, which may be cut anywhere [34]."""

from laidanyhow.errors import NoText, TileError, Wrong
from laidanyhow.house import House, do_words
from laidanyhow.lands import cells_of
from laidanyhow.worlds import told_lots

MANY_WORDS = {"lay": 3, "back": 2, "finish": 1, "undo": 1, "redo": 1}
LEAST_OF_TELL = 3


def whole_lines(text):
    return tuple(text.split("\n")[:-1])


def reopened(world, land, text):
    house = House(world, land)
    if not isinstance(text, str):
        raise Wrong(2)
    for index, line in enumerate(whole_lines(text)):
        words = line.split(" ")
        if not _is_written(house, words):
            raise NoText(index, _fault_column(world, land, house, words))
    return house


def _is_written(house, words):
    """Tell whether the House could write these words as its next line; then it has done so."""
    is_line = len(words) >= LEAST_OF_TELL if words[0] == "tell" else MANY_WORDS.get(words[0]) == len(words)
    if not is_line:
        return False
    try:
        do_words(house, words)
    except TileError:
        return False
    return True


def _fault_column(world, land, house, words):
    """Return the column of the first word at fault of a line that the House could not write."""
    rows = _lines_like(world, land, house, words)
    for column in range(len(words)):
        if not any([row[:column + 1] == words[:column + 1] for row in rows]):
            return column
    return len(words)


def _lines_like(world, land, house, words):
    """Return the list of the lines that the House could write with the first of these words, as lists of words.

    Those that tell are only those of the second word, if it is a CELL.
    """
    cells = cells_of(land)
    sort = words[0]
    if sort == "lay":
        return [[sort, cell, tile] for cell in cells for tile in house.can(cell)]
    if sort == "back":
        return [[sort, cell] for cell in house.ahead()]
    if sort == "tell":
        # Each CELL can be told once more what it is told, so there is a line for each one.
        wanted = [cell for cell in cells if cell in words[1:2]] or cells[:1]
        rows = [[sort, cell, *lot] for cell in wanted for lot in told_lots(world)]
    else:
        rows = [[sort]]
    return [row for row in rows if _is_written(house.twin(), row)]
