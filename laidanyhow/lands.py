"""Lands: their faults, their CELLS and TIES, how they hang together, lands made of others [15]."""

from laidanyhow.errors import NoLand
from laidanyhow.forms import fault_of_land


def land_fault(world, thing):
    return fault_of_land(world, thing)


def checked_land(world, thing):
    fault = land_fault(world, thing)
    if fault is not None:
        raise NoLand(fault)
    return thing


def cells_of(land):
    return tuple([cell for cell, mark in land[0]])


def mark_of(land, cell):
    return dict(land[0])[cell]


def ties_at(land, cell):
    return tuple([tie for tie in land[1] if cell in tie[1:]])


def neighbours(land, cell):
    return tuple(sorted({other_end(tie, cell) for tie in ties_at(land, cell)}))


def other_end(tie, cell):
    """Return the CELL at the end of the TIE that is not this one."""
    return tie[2] if tie[1] == cell else tie[1]


def pieces(land):
    beside = _beside(land)
    seen = set()
    found = []
    for cell in cells_of(land):
        if cell not in seen:
            piece = sorted(_steps(beside, (cell,)))
            found.append(tuple(piece))
            for one in piece:
                seen.add(one)
    return tuple(found)


def steps_from(land, cells):
    steps = _steps(_beside(land), cells)
    return {cell: steps[cell] for cell in sorted(steps)}


def _beside(land):
    """Return a dict from all CELLS to lists of the CELLS to which they are tied, one for each TIE."""
    beside = {cell: [] for cell in cells_of(land)}
    for _, one, other in land[1]:
        beside[one].append(other)
        beside[other].append(one)
    return beside


def _steps(beside, cells):
    steps = {cell: 0 for cell in cells}
    edge = list(cells)
    number = 0
    while len(edge) > 0:
        number += 1
        reached = []
        for cell in edge:
            for other in beside[cell]:
                if other not in steps:
                    steps[other] = number
                    reached.append(other)
        edge = reached
    return steps


def is_forest(land):
    return len(land[1]) == len(land[0]) - len(pieces(land))


def part_of(land, cells):
    within = set(cells)
    ties = [tie for tie in land[1] if tie[1] in within and tie[2] in within]
    return (tuple([row for row in land[0] if row[0] in within]), tuple(ties))


def beside_each_other(one, other):
    return (tuple(sorted(one[0] + other[0])), tuple(sorted(one[1] + other[1])))


def grid(world, rows, right, down):
    marks = {}
    ties = []
    for i, row in enumerate(rows):
        for j, mark in enumerate(row):
            marks[place_name(i, j)] = mark
            if right is not None and j > 0:
                ties.append((right, place_name(i, j - 1), place_name(i, j)))
            if down is not None and i > 0:
                ties.append((down, place_name(i - 1, j), place_name(i, j)))
    return checked_land(world, (tuple(sorted(marks.items())), tuple(sorted(ties))))


def place_name(i, j):
    """Return the name of the CELL of a grid in the row i, at the place j of it."""
    return f"r{i}c{j}"


def ring(world, marks, kind):
    names = [f"c{index}" for index in range(len(marks))]
    ties = [(kind, name, names[(index + 1) % len(names)]) for index, name in enumerate(names)]
    return checked_land(world, (tuple(sorted(zip(names, marks))), tuple(sorted(ties))))
