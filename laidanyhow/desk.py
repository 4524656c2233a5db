"""A desk: lines of words that lead a House, or ask for what the other files tell [36]."""

from laidanyhow.arising import arising
from laidanyhow.clashes import least_clash
from laidanyhow.errors import NoCommand, NoGuide, NoTile, Nothing, Refused, Wrong
from laidanyhow.forms import is_told
from laidanyhow.free import bound_pick, is_free
from laidanyhow.guides import guide, is_sure, laying_by
from laidanyhow.house import House, do_words
from laidanyhow.lands import cells_of
from laidanyhow.landtexts import read_land
from laidanyhow.looks import picked
from laidanyhow.rounds import forgets
from laidanyhow.tried import must_stand
from laidanyhow.worldtexts import read_world

# What stands behind the first word of a line; a LOT is one or more words.
FORMS = {
    "lay": ("CELL", "TILE"), "tell": ("CELL", "LOT"), "back": ("CELL",), "finish": (), "undo": (), "redo": (),
    "look": (), "ahead": (), "can": ("CELL",), "open": (), "must": (), "one": (), "why": ("CELL", "TILE"), "log": (),
    "sure": (), "free": (), "forgets": (), "guide": ("MARK", "LOT"), "bound": (),
}
NO_GUIDE = "refused NoGuide"


def _looked(world, land, house, words):
    return _lot_lines(house.look())


def _told(world, land, house, words):
    return _lot_lines(house.ahead())


def _lot_lines(lots):
    return [" ".join([cell, *lots[cell]]) for cell in lots]


def _able(world, land, house, words):
    return [" ".join(house.can(words[1]))]


def _still_open(world, land, house, words):
    return list(house.open_cells())


def _must(world, land, house, words):
    return _tile_lines(must_stand(world, land, house.ahead()))


def _tile_lines(tiles):
    return [f"{cell} {tiles[cell]}" for cell in tiles]


def _one(world, land, house, words):
    try:
        tiles = laying_by(world, land, house.ahead())
    except NoGuide:
        return [NO_GUIDE]
    return _tile_lines(tiles)


def _why(world, land, house, words):
    clash = least_clash(world, land, picked(house.ahead(), (words[1], words[2])))
    return [] if clash is None else _lot_lines(clash)


def _logged(world, land, house, words):
    return house.log().split("\n")[:-1]


def _sure(world, land, house, words):
    return ["yes" if is_sure(world) else "no"]


def _free(world, land, house, words):
    return ["yes" if is_free(world) else "no"]


def _forgets(world, land, house, words):
    number = forgets(world)
    return ["never" if number is None else str(number)]


def _guided(world, land, house, words):
    try:
        tiles = guide(world)
    except NoGuide:
        return [NO_GUIDE]
    return [tiles[(words[1], tuple(words[2:]))]]


def _bound(world, land, house, words):
    found = bound_pick(world)
    if found is None:
        return []
    (mark, lot), tile = found
    return [" ".join([mark, tile, *lot])]


# The questions; what is none is a change.
ANSWERS = {
    "look": _looked, "ahead": _told, "can": _able, "open": _still_open, "must": _must, "one": _one, "why": _why,
    "log": _logged, "sure": _sure, "free": _free, "forgets": _forgets, "guide": _guided, "bound": _bound,
}


class Desk:
    """Leads a House of a WORLD and a LAND that texts tell."""

    def __init__(self, world_text, land_text):
        _check(isinstance(world_text, str), 0)
        _check(isinstance(land_text, str), 1)
        self._world = read_world(world_text)
        self._land = read_land(self._world, land_text)
        self._house = House(self._world, self._land)

    def house(self):
        return self._house.twin()

    def execute(self, line):
        _check(isinstance(line, str) and "\n" not in line, 0)
        words = _in_order([word for word in line.split(" ") if word != ""])
        if not _is_command(self._world, self._land, words):
            raise NoCommand(line)
        if words[0] not in ANSWERS:
            return [_change(self._house, words)]
        answer = ANSWERS[words[0]]
        return answer(self._world, self._land, self._house, words)


def _check(is_right, place):
    if not is_right:
        raise Wrong(place)


def _in_order(words):
    """Return the words, those that may be TILES of a LOT in ascending order."""
    return [*words[:2], *sorted(words[2:])]


def _is_command(world, land, words):
    """Tell whether words are a change or a question, those of a LOT in ascending order."""
    form = FORMS.get(words[0]) if len(words) > 0 else None
    if form is None:
        return False
    least = 1 + len(form)
    if len(words) < least or (len(words) > least and form[-1:] != ("LOT",)):
        return False
    return all([_is_part(world, land, words, index + 1, part) for index, part in enumerate(form)])


def _is_part(world, land, words, column, part):
    """Tell whether the word in this column is what that part of the form says; for a LOT, it and those behind."""
    if part == "CELL":
        return words[column] in cells_of(land)
    if part == "TILE":
        return words[column] in world[0]
    if part == "MARK":
        return words[column] in world[2]
    lot = tuple(words[column:])
    if words[0] == "tell":
        return is_told(world, lot)
    return lot in arising(world).get(words[1], ())


def _change(house, words):
    """Do a change; return the line that answers it."""
    try:
        do_words(house, words)
    except Refused:
        return "refused Refused"
    except NoTile:
        return "refused NoTile"
    except Nothing:
        return "refused Nothing"
    return "done"
