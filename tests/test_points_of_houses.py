"""Points 3 and 4 of clashes, finer and smaller worlds, boards, houses, logs, pictures and desks."""

from laidanyhow import boards, clashes, covers, guides, lands, landtexts, learned, logs, openings, subworlds, worldtexts
from laidanyhow.desk import Desk
from laidanyhow.errors import NoGuide
from laidanyhow.house import House
from tests import test_points
from tests.board_samples import CHESS, SHORE, SHORES, SLOPES, random_board, random_builds
from tests.samples import COAST, STONES, TRIANGLE, TURNS, Dice, all_told, great_world, greatest_land

LINE = ((("x", "a"), ("y", "a"), ("z", "a")), (("by", "x", "y"), ("by", "y", "z")))


def calls_of_clashes(world, land, ahead, other):
    cells = sorted(ahead)
    clash = clashes.least_clash(world, land, ahead) or {}
    return [
        (clashes.least_clash, world, land, ahead),
        (clashes.is_clash, world, land, ahead, {cell: clash[cell] for cell in reversed(list(clash))}),
        (clashes.is_clash, world, land, ahead, [ahead, {}]),
        (clashes.is_back, world, land, ahead, tuple(cells[::2])),
        (clashes.is_back, world, land, ahead, [cells]),
        (clashes.fewest_back, world, land, ahead),
        (clashes.joined, world, land, ahead, other),
        (clashes.joined, world, land, other, {}),
        (clashes.are_apart, world, land, ahead, other),
    ]


def calls_of_covers(world, land, steps):
    finer, cover = covers.ring_world(world, 3, steps)
    turned = {mark: cover[mark] for mark in reversed(list(cover))}
    told = [
        (covers.ring_world, world, 1, steps),
        (covers.ring_world, world, 11, steps),
        (covers.is_cover, finer, world, turned),
        (covers.is_cover, world, finer, [{}, cover]),
        (covers.ring_down, world, 2, 3, steps),
        (covers.ring_land, world, land, 3, steps),
        (covers.ring_land, world, land, 1, steps),
        (covers.laid_down, covers.ring_land(world, land, 1, steps), covers.ring_world(world, 1, steps)[1]),
        (covers.least_ring, world, steps, 4),
        (guides.is_sure, finer),
    ]
    try:
        tiles = guides.guide(world)
    except NoGuide:
        return told
    return told + [(covers.lifted, finer, world, turned, {node: tiles[node] for node in reversed(list(tiles))})]


def calls_of_subworlds(world):
    couples = [(kind, *row) for kind, rows in world[1] for row in rows]
    return [
        *((subworlds.kept, world, lot) for lot in (world[0], world[0][:1], world[0][1:])),
        *((subworlds.without, world, tuple(lack)) for lack in (couples[:0], couples[:1], couples[1::4], couples)),
        (subworlds.greatest_sure, world),
        (subworlds.greatest_free, world),
        (subworlds.fewest_sure, world),
        (subworlds.fewest_free, world),
    ]


def calls_of_boards(board, builds):
    places = tuple(sorted({*builds, (0, 0), (1, 0), (0, 1), (-5, 7)}))
    tile = board[0][0][-1]
    return [
        (boards.is_board, board),
        (boards.is_board, [board, {}]),
        (boards.is_place, [0, 0]),
        (boards.are_builds, board, builds),
        (boards.are_builds, board, {**builds, (0, 0): ["a"]}),
        (boards.mark_at, board, (-7, 10 ** 30)),
        (boards.part_land, board, builds, places),
        (boards.near, board, builds),
        (boards.board_look, board, builds),
        (boards.tile_at, board, builds, (0, 1)),
        (boards.can_build, board, builds, (1, 1), tile),
        (openings.window, board, builds, (-2, -1, 5, 3)),
        (openings.picture, board, builds, (-2, -1, 3, 5)),
        (openings.opened, board, builds, ((0, 0, 3, 3), (-1, -1, 2, 2))),
        (openings.opened, board, builds, ()),
        (openings.changed, board, builds, (1, 1), tile),
        (openings.alike, board, builds, (board[0], board[1] * 2, *board[2:]), {(9, 9): tile, **builds}),
        (openings.alike, board, builds, board, {}),
    ]


def asked(world, land, lines, method, *args):
    """What a method of a House returns behind these lines of a LOG."""
    house = logs.reopened(world, land, lines)
    return getattr(house, method)(*args)


def told_behind(world, land, lines, method, *args):
    """What is told ahead behind an act of a House, and what can be undone then."""
    house = logs.reopened(world, land, lines)
    getattr(house, method)(*args)
    told = [house.ahead(), house.log(), house.acts()]
    house.undo()
    return told + [house.ahead()]


def executed(world_text, land_text, lines):
    """What a Desk answers to these lines, one after the other."""
    desk = Desk(world_text, land_text)
    return [desk.execute(line) for line in lines]


def calls_of_houses(world, land, lines):
    cell, tile = land[0][0][0], world[0][-1]
    texts = worldtexts.world_text(world), landtexts.land_text(land)
    rows = ("look", f"lay {cell} {tile}", "ahead", "open", "must", "one", f"can {cell}", "finish", "log")
    return [
        *((asked, world, land, lines, name) for name in ("ahead", "look", "open_cells", "acts", "log")),
        *((asked, world, land, lines, "can", one) for one in (cell, "q", [cell], {})),
        (asked, world, land, lines, "__eq__", [world, {}]),
        (told_behind, world, land, lines, "lay", cell, tile),
        (told_behind, world, land, lines, "lay", [cell], [tile]),
        (told_behind, world, land, lines, "tell", cell, (tile,)),
        (told_behind, world, land, lines, "tell", cell, [tile, {}]),
        (told_behind, world, land, lines, "take_back", cell),
        (told_behind, world, land, lines, "take_back", {cell: [cell]}),
        (told_behind, world, land, lines, "finish"),
        (told_behind, world, land, lines, "undo"),
        (told_behind, world, land, lines, "redo"),
        (House, [world], land),
        (House, world, {"x": [land]}),
        (logs.reopened, world, land, lines + "lay\n"),
        (logs.reopened, world, land, ["lay x m\n"]),
        (logs.whole_lines, lines + "lay"),
        (executed, *texts, rows),
        (executed, *texts, ("sure", "free", "forgets", "bound", f"guide {world[2][0]} {tile}", f"why {cell} {tile}")),
        (executed, *texts, ("zz",)),
        (executed, *texts, (["look"],)),
        (executed, texts[0], [texts[1]], ()),
    ]


def calls_of_pictures(picture):
    world = learned.learned(picture)
    windows, shapes = learned.learned_windows((("a", "b") * 3,) * 2, 1, 2)
    return [
        (learned.is_picture, picture),
        (learned.is_picture, [picture, {}]),
        (learned.learned, picture),
        (learned.learned, (("a", "b"),)),
        (learned.as_laid, world, picture),
        (learned.learned_windows, picture, 1, 1),
        (learned.learned_windows, picture, 2, 2),
        (learned.learned_windows, (("a", "b") * 3,) * 2, 1, 2),
        (learned.woven, {tile: shapes[tile] for tile in reversed(list(shapes))}, {"r0c1": "w1", "r0c0": "w0"}),
    ]


def small_calls():
    told = {"z": ("a", "b"), "x": ("a", "b")}
    both = (*STONES[:3], STONES[3], (("a", "b"),))
    return [
        *calls_of_clashes(STONES, TRIANGLE, {"z": ("s",), "x": ("a",)}, told),
        *calls_of_clashes(SHORE, LINE, {"z": ("w",), "x": ("m",)}, {"y": ("s",)}),
        *calls_of_clashes(SHORE, LINE, {"z": ("w",), "y": ("m",), "x": ("w",)}, {"z": ("w",)}),
        *calls_of_covers(SHORE, LINE, {"by": -4}),
        *calls_of_covers(both, TRIANGLE, {"r": 1}),
        *calls_of_subworlds(STONES),
        *calls_of_subworlds(TURNS),
        *calls_of_boards(SHORES, {(2, 0): "m", (0, 0): "w"}),
        *calls_of_boards(SHORES, {(1, 0): "m", (0, 0): "w"}),
        *calls_of_boards(SLOPES, {(3, 3): "a", (-1, 2): "d"}),
        *calls_of_boards(CHESS, {(3, 3): "p"}),
        *calls_of_houses(SHORE, LINE, "lay z w\ntell x m s w\n"),
        *calls_of_houses(STONES, TRIANGLE, "lay z s\nundo\nfinish\nback x\nundo\n"),
        *calls_of_pictures((("m", "m", "s"), ("m", "s", "m"), ("s", "m", "m"))),
    ]


def great_calls():
    told = []
    for seed, world in enumerate((great_world(Dice(5)), great_world(Dice(3), each_told=True), STONES, COAST, SHORE)):
        dice = Dice(seed)
        land = greatest_land(world, dice)
        lots = all_told(world)
        cells = dice.mixed(lands.cells_of(land))
        told += calls_of_clashes(world, land, {cell: dice.one(lots) for cell in cells[:26]}, {cells[0]: world[0]})
        told += calls_of_clashes(world, land, {cell: dice.one(lots) for cell in cells[:2]}, {cells[40]: world[0]})
        told += calls_of_covers(world, land, {kind: dice.below(7) - 3 for kind, one, other in reversed(world[3])})
        told += calls_of_subworlds(world)
        told += calls_of_houses(world, land, f"tell {cells[3]} {' '.join(world[0])}\nundo\n")
    for seed in range(3):
        board = random_board(Dice(seed))
        told += calls_of_boards(board, random_builds(board, Dice(seed), 5, 7))
    told += calls_of_boards(SHORES, {(3 * x, 3 * y): "mw"[(x + y) % 2] for x in range(9, 1, -1) for y in range(9)})
    told += calls_of_pictures((("m", "m", "s") * 12,) * 30)
    return told


class PointsOfHouses(test_points.Points):
    calls = staticmethod(small_calls)


class PointsOfTheGreatest(test_points.Points):
    calls = staticmethod(great_calls)
