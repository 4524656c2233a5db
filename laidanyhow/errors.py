"""The errors: one class for each way in which a call can fail [11]."""


class TileError(ValueError):
    """The base of all errors of this package; it is raised nowhere itself."""


class Wrong(TileError):
    """The argument at this place is not as described."""

    def __init__(self, place):
        self.place = place


class NoText(TileError):
    """The text is at fault at this line and column."""

    def __init__(self, line, column):
        self.line = line
        self.column = column


class NoWorld(TileError):
    """This is no WORLD, for this fault."""

    def __init__(self, fault):
        self.fault = fault


class NoLand(TileError):
    """This is no LAND, for this fault."""

    def __init__(self, fault):
        self.fault = fault


class Refused(TileError):
    """The LOOK refuses."""

    def __init__(self):
        pass


class NoLaying(TileError):
    """There is no LAYING."""

    def __init__(self):
        pass


class NoTile(TileError):
    """There is no TILE for this CELL."""

    def __init__(self, cell):
        self.cell = cell


class NoGuide(TileError):
    """There is no GUIDE, which this BAR shows."""

    def __init__(self, bar):
        self.bar = bar


class NoPick(TileError):
    """The PICK with this index cannot be picked."""

    def __init__(self, index):
        self.index = index


class NoNumber(TileError):
    """No LAYING has this number, as there are only so many."""

    def __init__(self, many):
        self.many = many


class TooMany(TileError):
    """There are more than this many."""

    def __init__(self, most):
        self.most = most


class NoForget(TileError):
    """The WORLD never FORGETS."""

    def __init__(self):
        pass


class NoCommand(TileError):
    """This line is no command."""

    def __init__(self, line):
        self.line = line


class Nothing(TileError):
    """There is nothing of what was asked for."""

    def __init__(self):
        pass
