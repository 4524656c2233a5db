"""Covers: worlds with finer marks, and what they take over from the coarser ones [29]."""

from laidanyhow.arising import nodes
from laidanyhow.guides import has_guide
from laidanyhow.nets import net_of
from laidanyhow.webs import web_of


def is_cover(finer, over, thing):
    if finer[:2] != over[:2] or finer[4] != over[4]:
        return False
    if not isinstance(thing, dict) or len(thing) != len(finer[2]):
        return False
    if not all([mark in thing and thing[mark] in over[2] for mark in finer[2]]):
        return False
    ties = set(over[3])
    return all([(kind, thing[one], thing[other]) in ties for kind, one, other in finer[3]])


def laid_down(land, cover):
    cells, ties = land
    return (tuple([(cell, cover[mark]) for cell, mark in cells]), ties)


def lifted(finer, over, cover, guide):
    return {(mark, lot): guide[(cover[mark], lot)] for mark, lot in nodes(finer)}


def ring_world(world, many, steps):
    tiles, tables, marks, ties, told = world
    names = _ring_names(world, many)
    finer = []
    for kind, one, other in ties:
        for number in range(many):
            finer.append((kind, names[(one, number)], names[(other, (number + steps[kind]) % many)]))
    cover = {names[(mark, number)]: mark for mark, number in names}
    return ((tiles, tables, tuple(cover), tuple(sorted(finer)), told), cover)


def _ring_names(world, many):
    """Return the dict from tuples (mark, number) to the MARKS of the finer WORLD, in ascending order."""
    keys = [(mark, number) for mark in world[2] for number in range(many)]
    digits = len(str(len(keys) - 1))
    return {key: "m" + str(index).zfill(digits) for index, key in enumerate(keys)}


def ring_down(world, many, times, steps):
    below = _ring_names(world, many)
    above = _ring_names(world, many * times)
    return {above[(mark, number)]: below[(mark, number % many)] for mark, number in above}


def ring_land(world, land, many, steps):
    numbers = _numbers_round(land, many, steps)
    for kind, one, other in land[1]:
        if (numbers[one] + steps[kind] - numbers[other]) % many != 0:
            return None
    names = _ring_names(world, many)
    return (tuple([(cell, names[(mark, numbers[cell])]) for cell, mark in land[0]]), land[1])


def _numbers_round(land, many, steps):
    """Return a dict from all CELLS to the numbers to which one way of TIES from the least CELL of the PIECE leads."""
    beside = {cell: [] for cell, mark in land[0]}
    for kind, one, other in land[1]:
        beside[one].append((other, steps[kind]))
        beside[other].append((one, -steps[kind]))
    numbers = {}
    for least in beside:
        if least not in numbers:
            numbers[least] = 0
            waiting = [least]
            while len(waiting) > 0:
                cell = waiting.pop()
                for other, step in beside[cell]:
                    if other not in numbers:
                        numbers[other] = (numbers[cell] + step) % many
                        waiting.append(other)
    return numbers


def least_ring(world, steps, most):
    found, ties, _ = web_of(world)
    places = {node: place for place, node in enumerate(found)}
    for many in range(1, most + 1):
        # The same LOTS ARISE at all MARKS that are led to one, so the web of the finer WORLD need not be grown anew.
        row = [node for node in found for _ in range(many)]
        finer = []
        for tie, one, other in ties:
            begin, end = places[one] * many, places[other] * many
            finer.extend([(tie[0], begin + k, end + (k + steps[tie[0]]) % many) for k in range(many)])
        if has_guide(world, row, net_of(world, len(row), finer)):
            return many
    return None
