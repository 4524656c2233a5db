"""Forms: whether any value is what a name of the document says [12].

The faults of WORLDS and LANDS are found here, so that the files that tell them can import this one.
"""

LETTERS = "abcdefghijklmnopqrstuvwxyz"
NAME_SIGNS = "abcdefghijklmnopqrstuvwxyz0123456789"
LONGEST_NAME = 12


def is_integer(thing):
    return isinstance(thing, int) and not isinstance(thing, bool)


def is_name(thing):
    if not isinstance(thing, str) or not 1 <= len(thing) <= LONGEST_NAME:
        return False
    return thing[0] in LETTERS and all([sign in NAME_SIGNS for sign in thing])


def is_world(thing):
    return fault_of_world(thing) is None


def is_lot(world, thing):
    if not isinstance(thing, tuple) or len(thing) == 0:
        return False
    return first_bad(thing, lambda tile: tile in world[0], itself) is None


def is_told(world, thing):
    if not is_lot(world, thing):
        return False
    if len(thing) == 1:
        return True
    # A LOT is the common TILES of some LOTS exactly if it is those of all LOTS around it.
    around = [lot for lot in world[4] if all([tile in lot for tile in thing])]
    others = [tile for tile in world[0] if tile not in thing]
    return all([any([tile not in lot for lot in around]) for tile in others])


def is_land(world, thing):
    return fault_of_land(world, thing) is None


def is_ahead(world, land, thing):
    if not isinstance(thing, dict):
        return False
    marks = dict(land[0])
    return all([cell in marks and is_told(world, lot) for cell, lot in thing.items()])


def are_lots(world, land, thing):
    return _has_all_cells(land, thing) and all([is_lot(world, lot) for lot in thing.values()])


def is_tiling(world, land, thing):
    return _has_all_cells(land, thing) and all([tile in world[0] for tile in thing.values()])


def are_picks(world, land, thing):
    if not isinstance(thing, tuple):
        return False
    cells = [cell for cell, mark in land[0]]
    return all([is_row(pick, 2) and pick[0] in cells and pick[1] in world[0] for pick in thing])


def _has_all_cells(land, thing):
    if not isinstance(thing, dict) or len(thing) != len(land[0]):
        return False
    return all([cell in thing for cell, mark in land[0]])


def is_row(thing, many):
    """Tell whether any value is a tuple of so many items."""
    return isinstance(thing, tuple) and len(thing) == many


def itself(row):
    return row


def first_item(row):
    return row[0]


def first_bad(rows, is_good, key_of):
    """Return the index of the first row that is not good, or not greater than the one before it."""
    for index, row in enumerate(rows):
        if not is_good(row):
            return index
        # Only rows that are good can be compared at all.
        if index > 0 and not key_of(rows[index - 1]) < key_of(row):
            return index
    return None


def fault_of_world(thing):
    """Return the first fault of any value that is to be a WORLD, None if it is one [13]."""
    if not is_row(thing, 5) or not all([isinstance(part, tuple) for part in thing]):
        return ("form",)
    tiles, tables, marks, ties, told = thing
    fault = _fault_of_names(tiles, "tiles", "tile")
    if fault is None:
        fault = _fault_of_tables(tables)
    if fault is None:
        fault = _fault_of_couples(tiles, tables)
    if fault is None:
        fault = _fault_of_names(marks, "marks", "mark")
    if fault is None:
        fault = _fault_of_pattern(tables, marks, ties)
    if fault is None:
        fault = _fault_of_told(thing)
    if fault is None:
        fault = _fault_of_partners(thing)
    return fault


def _fault_at(word, index):
    return None if index is None else (word, index)


def _fault_of_names(names, word_of_none, word_of_one):
    if len(names) == 0:
        return (word_of_none,)
    return _fault_at(word_of_one, first_bad(names, is_name, itself))


def _is_table(thing):
    return is_row(thing, 2) and is_name(thing[0]) and isinstance(thing[1], tuple)


def _fault_of_tables(tables):
    return _fault_at("table", first_bad(tables, _is_table, first_item))


def _fault_of_couples(tiles, tables):
    for index, (_, couples) in enumerate(tables):
        place = first_bad(couples, lambda row: is_row(row, 2) and all([part in tiles for part in row]), itself)
        if place is not None:
            return ("couple", index, place)
    return None


def _fault_of_pattern(tables, marks, ties):
    kinds = [kind for kind, couples in tables]

    def is_tie(row):
        return is_row(row, 3) and row[0] in kinds and row[1] in marks and row[2] in marks

    return _fault_at("tie", first_bad(ties, is_tie, itself))


def _fault_of_told(world):
    return _fault_at("told", first_bad(world[4], lambda lot: is_lot(world, lot), itself))


def _fault_of_partners(world):
    tables = dict(world[1])
    for kind in sorted({tie[0] for tie in world[3]}):
        lonely = lonely_tiles(world[0], tables[kind])
        if len(lonely) > 0:
            return ("partner", kind, lonely[0])
    return None


def lonely_tiles(tiles, couples):
    """Return those of the TILES that are not the first one, or not the second one, of any COUPLE of them."""
    within = [(one, other) for one, other in couples if one in tiles and other in tiles]
    firsts = [one for one, other in within]
    seconds = [other for one, other in within]
    return tuple([tile for tile in tiles if tile not in firsts or tile not in seconds])


def fault_of_land(world, thing):
    """Return the first fault of any value that is to be a LAND of the WORLD, None if it is one [15]."""
    if not is_row(thing, 2) or not all([isinstance(part, tuple) for part in thing]):
        return ("form",)
    cells, ties = thing
    bad_cell = first_bad(cells, lambda row: is_row(row, 2) and is_name(row[0]) and row[1] in world[2], first_item)
    if bad_cell is not None:
        return ("cell", bad_cell)
    marks = dict(cells)
    return _fault_at("tie", first_bad(ties, lambda row: _is_tie(world, marks, row), itself))


def _is_tie(world, marks, thing):
    if not is_row(thing, 3):
        return False
    kind, one, other = thing
    # Only strings are looked up, as other values may be none that a dict can look up.
    if not isinstance(one, str) or not isinstance(other, str) or one == other:
        return False
    return one in marks and other in marks and (kind, marks[one], marks[other]) in world[3]
