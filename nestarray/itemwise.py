"""The works that go item by item: a kind tells what is done with each item."""

from nestarray.cells import parts_by_cell
from nestarray.checks import checked_number
from nestarray.values import array_of, depth_of, extents_of, leaves_of, parts_of, rank_of, vector_of
from nestarray.works import raveled


def with_each(kind, value):
    """The array of the value's shape whose items are what the kind makes of its items."""
    return array_of(extents_of(value), [made_of(kind, part) for part in parts_of(value)])


def made_of(kind, value):
    if kind == 0:
        return vector_of(extents_of(value))
    if kind == 1:
        return first_extent(value)
    if kind == 2:
        return raveled(value)
    if kind == 3:
        return checked_number(sum(leaves_of(value)))
    if kind == 4:
        return depth_of(value)
    if kind == 5:
        return turned(value)
    return first_part(value)


def first_extent(value):
    """The first extent, 1 if there is none."""
    return 1 if rank_of(value) == 0 else extents_of(value)[0]


def turned(value):
    """The array with the cells along its first axis in the opposite order."""
    if rank_of(value) == 0:
        return value
    parts = []
    for cell in reversed(parts_by_cell(value)):
        parts.extend(cell)
    return array_of(extents_of(value), parts)


def first_part(value):
    """The first item, the number 0 if there is none."""
    parts = parts_of(value)
    return parts[0] if len(parts) > 0 else 0
