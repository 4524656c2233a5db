"""A house for the tests, which does what the document says of a House, word by word, and its LOG."""

import copy

from laidanyhow.errors import Nothing, NoTile, Refused
from tests.by_words import left_by_words


class OwnHouse:
    """Keeps the whole story: what is told ahead behind each ACT that is done, and behind each that is taken back."""

    def __init__(self, world, land):
        self.world, self.land = world, land
        self.done = [{}]
        self.back = []
        self.text = ""

    def told(self):
        return self.done[-1]

    def ahead(self):
        return dict(sorted(self.told().items()))

    def look(self):
        return left_by_words(self.world, self.land, self.told())

    def lets(self, told):
        return left_by_words(self.world, self.land, told) is not None

    def can(self, cell):
        lot = self.told().get(cell, self.world[0])
        return tuple(tile for tile in lot if self.lets({**self.told(), cell: (tile,)}))

    def open_cells(self):
        return tuple(cell for cell, mark in self.land[0] if cell not in self.told() or len(self.told()[cell]) > 1)

    def act(self, told, line):
        self.done.append(told)
        self.back = []
        self.text += line + "\n"

    def lay(self, cell, tile):
        if tile not in self.can(cell):
            raise Refused()
        self.act({**self.told(), cell: (tile,)}, f"lay {cell} {tile}")

    def tell(self, cell, lot):
        behind = {**self.told(), cell: lot}
        if not set(lot) <= set(self.told().get(cell, self.world[0])) or not self.lets(behind):
            raise Refused()
        self.act(behind, f"tell {cell} {' '.join(lot)}")

    def take_back(self, cell):
        if cell not in self.told():
            raise Nothing()
        self.act({one: lot for one, lot in self.told().items() if one != cell}, f"back {cell}")

    def finish(self):
        told = self.told()
        for cell, mark in self.land[0]:
            lots = left_by_words(self.world, self.land, told)
            able = [tile for tile in lots[cell] if self.lets({**told, cell: (tile,)})]
            if not able:
                raise NoTile(cell)
            told = {**told, cell: (able[0],)}
        self.act(told, "finish")

    def undo(self):
        if len(self.done) == 1:
            raise Nothing()
        self.back.append(self.done.pop())
        self.text += "undo\n"

    def redo(self):
        if not self.back:
            raise Nothing()
        self.done.append(self.back.pop())
        self.text += "redo\n"

    def acts(self):
        return len(self.done) - 1

    def log(self):
        return self.text

    def lines(self, told):
        """All lines that could be written next, told being all TOLD LOTS."""
        cells = [cell for cell, mark in self.land[0]]
        lines = [f"lay {cell} {tile}" for cell in cells for tile in self.can(cell)]
        for cell in cells:
            lot = self.told().get(cell, self.world[0])
            able = [one for one in told if set(one) <= set(lot) and self.lets({**self.told(), cell: one})]
            lines += [f"tell {cell} {' '.join(one)}" for one in able]
        lines += [f"back {cell}" for cell in self.told()]
        lines += ["undo"] if self.acts() else []
        lines += ["redo"] if self.back else []
        try:
            copy.deepcopy(self).finish()
        except NoTile:
            return lines
        return lines + ["finish"]
