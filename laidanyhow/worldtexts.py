"""Texts of worlds, and the form that all texts of lines and words have [14]."""

from laidanyhow.errors import NoText, Wrong
from laidanyhow.forms import is_name
from laidanyhow.worlds import checked_world

NAMING = ("tile", "kind", "mark")
MANY_WORDS = {"tile": 2, "kind": 2, "mark": 2, "fits": 4, "tie": 4}
LEAST_OF_TOLD = 2


def world_text(world):
    tiles, tables, marks, ties, told = world
    rows = [("tile", tile) for tile in tiles]
    for kind, couples in tables:
        rows.append(("kind", kind))
        rows.extend([("fits", kind, one, other) for one, other in couples])
    rows.extend([("mark", mark) for mark in marks])
    rows.extend([("tie", kind, one, other) for kind, one, other in ties])
    rows.extend([("told", *lot) for lot in told])
    return text_of(rows)


def read_world(text):
    if not isinstance(text, str):
        raise Wrong(0)
    rows = rows_of(text)
    named = {sort: second_words(rows, sort) for sort in NAMING}
    told = faultless_rows(rows, lambda words, earlier: _fault_column(words, earlier, named))
    if len(named["tile"]) == 0 or len(named["mark"]) == 0:
        raise NoText(len(rows), 0)
    return checked_world(_world_of(told))


def text_of(rows):
    """Return the text with a line for each row of words."""
    return "\n".join([" ".join(row) for row in rows])


def rows_of(text):
    """Return a list of the words of each line, without remarks; the index of a row is that of its line."""
    rows = []
    for line in text.split("\n"):
        told = line.partition("#")[0]
        rows.append([word for word in told.split(" ") if word != ""])
    return rows


def rows_with(rows, sort):
    """Return the rows that begin with this word."""
    return [words for words in rows if len(words) > 0 and words[0] == sort]


def second_words(rows, sort):
    return [words[1] for words in rows_with(rows, sort) if len(words) > 1]


def faultless_rows(rows, fault_column):
    """Return the rows that have words.

    fault_column tells of the words of a row, and a list of the rows ahead of it, which word is at fault, or None.
    """
    earlier = []
    for line, words in enumerate(rows):
        if len(words) > 0:
            column = fault_column(words, earlier)
            if column is not None:
                raise NoText(line, column)
            earlier.append(words)
    return earlier


def first_wrong(words, least, most, is_right):
    """Return the column of the first word at fault behind the first one, of a line of least to most words."""
    for column in range(1, min(len(words), most)):
        if not is_right(column):
            return column
    if len(words) < least:
        return len(words)
    return most if len(words) > most else None


def _fault_column(words, earlier, named):
    sort = words[0]
    if sort == "told":
        return first_wrong(
            words, LEAST_OF_TOLD, len(words), lambda column: _is_told_word(words, column, earlier, named)
        )
    if sort not in MANY_WORDS:
        return 0
    many = MANY_WORDS[sort]
    if sort in NAMING:
        return first_wrong(words, many, many, lambda column: is_name(words[column]) and words[:2] not in earlier)
    return first_wrong(words, many, many, lambda column: _is_couple_word(words, column, earlier, named))


def _is_told_word(words, column, earlier, named):
    word = words[column]
    if word not in named["tile"] or word in words[1:column]:
        return False
    if column < len(words) - 1:
        return True
    lot = sorted(words[1:])
    return not any([sorted(row[1:]) == lot for row in rows_with(earlier, "told")])


def _is_couple_word(words, column, earlier, named):
    if column == 1:
        return words[1] in named["kind"]
    ends = named["tile"] if words[0] == "fits" else named["mark"]
    return words[column] in ends and (column < 3 or words[:4] not in earlier)


def _world_of(rows):
    tables = []
    for kind in sorted(second_words(rows, "kind")):
        couples = [(one, other) for _, of, one, other in rows_with(rows, "fits") if of == kind]
        tables.append((kind, tuple(sorted(couples))))
    ties = [(kind, one, other) for _, kind, one, other in rows_with(rows, "tie")]
    lots = [tuple(sorted(words[1:])) for words in rows_with(rows, "told")]
    tiles = tuple(sorted(second_words(rows, "tile")))
    marks = tuple(sorted(second_words(rows, "mark")))
    return (tiles, tuple(tables), marks, tuple(sorted(ties)), tuple(sorted(lots)))
