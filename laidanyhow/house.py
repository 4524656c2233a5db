"""A house that lays, step by step, and can go back [33]."""

from laidanyhow.errors import Nothing, Refused, Wrong
from laidanyhow.forms import is_land, is_told, is_world
from laidanyhow.lands import cells_of
from laidanyhow.looks import picked
from laidanyhow.nets import bits_of, land_masks, land_net, lot_of, pinned, settled
from laidanyhow.tried import built


class House:
    """Holds what is told ahead on a LAND, which the LOOK never refuses."""

    def __init__(self, world, land):
        _check(is_world(world), 0)
        _check(is_land(world, land), 1)
        self._world = world
        self._land = land
        self._net = land_net(world, land)
        self._ahead = {}
        # What was told ahead of each ACT that is done, and behind each one that is taken back, the last one last.
        self._earlier = []
        self._later = []
        self._lines = []

    def __eq__(self, other):
        if not isinstance(other, House):
            return False
        return self._world == other._world and self._land == other._land and self._lines == other._lines

    def ahead(self):
        return {cell: self._ahead[cell] for cell in self._ahead}

    def look(self):
        return {cell: lot_of(self._world, mask) for cell, mask in zip(cells_of(self._land), self._looked(self._ahead))}

    def _looked(self, ahead):
        """Return the MASKS that the LOOK leaves of what is told, None if it refuses."""
        return settled(self._net, land_masks(self._world, self._land, ahead))

    def can(self, cell):
        cells = cells_of(self._land)
        _check(cell in cells, 0)
        masks = self._looked(self._ahead)
        place = cells.index(cell)
        # A TILE that was struck would be refused: to tell it alone strikes no less.
        able = [bit for bit in bits_of(masks[place]) if pinned(self._net, masks, place, bit) is not None]
        return lot_of(self._world, sum(able))

    def open_cells(self):
        return tuple([cell for cell in cells_of(self._land) if len(self._ahead.get(cell, ())) != 1])

    def lay(self, cell, tile):
        _check(cell in cells_of(self._land), 0)
        _check(tile in self._world[0], 1)
        if tile not in self.can(cell):
            raise Refused()
        self._act(picked(self._ahead, (cell, tile)), f"lay {cell} {tile}")

    def tell(self, cell, lot):
        _check(cell in cells_of(self._land), 0)
        _check(is_told(self._world, lot), 1)
        told = self._ahead.get(cell, self._world[0])
        behind = {**self._ahead, cell: lot}
        if not all([tile in told for tile in lot]) or self._looked(behind) is None:
            raise Refused()
        self._act({one: behind[one] for one in sorted(behind)}, " ".join(["tell", cell, *lot]))

    def take_back(self, cell):
        _check(cell in cells_of(self._land), 0)
        if cell not in self._ahead:
            raise Nothing()
        self._act({one: self._ahead[one] for one in self._ahead if one != cell}, f"back {cell}")

    def finish(self):
        tiles = built(self._world, self._land, self._ahead)
        self._act({cell: (tiles[cell],) for cell in tiles}, "finish")

    def _act(self, ahead, line):
        """Do an ACT behind which this is told ahead."""
        self._earlier.append(self._ahead)
        self._later = []
        self._ahead = ahead
        self._lines.append(line)

    def undo(self):
        if len(self._earlier) == 0:
            raise Nothing()
        self._later.append(self._ahead)
        self._ahead = self._earlier.pop()
        self._lines.append("undo")

    def redo(self):
        if len(self._later) == 0:
            raise Nothing()
        self._earlier.append(self._ahead)
        self._ahead = self._later.pop()
        self._lines.append("redo")

    def acts(self):
        return len(self._earlier)

    def log(self):
        return "".join([line + "\n" for line in self._lines])

    def twin(self):
        other = House(self._world, self._land)
        other._ahead = self._ahead
        # What is told is never changed once it is held, so that only the lists of it need be new.
        other._earlier = list(self._earlier)
        other._later = list(self._later)
        other._lines = list(self._lines)
        return other


def _check(is_right, place):
    if not is_right:
        raise Wrong(place)


def do_words(house, words):
    """Do what the words of a line of a LOG say, which has as many words as such a line."""
    sort = words[0]
    if sort == "lay":
        house.lay(words[1], words[2])
    elif sort == "tell":
        house.tell(words[1], tuple(words[2:]))
    elif sort == "back":
        house.take_back(words[1])
    elif sort == "finish":
        house.finish()
    elif sort == "undo":
        house.undo()
    else:
        house.redo()
