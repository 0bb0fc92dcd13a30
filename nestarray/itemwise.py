"""The works that go item by item: a kind tells what is done with each item."""

from nestarray.refusals import BigRefusal, KindRefusal
from nestarray.values import LARGEST_NUMBER
from nestarray.values import array_of, depth_of, extents_of, leaves_of, parts_of, product_of, rank_of, vector_of
from nestarray.works import raveled

LAST_KIND = 6


def checked_kind(kind):
    """The kind itself, if it is one."""
    if kind < 0 or kind > LAST_KIND:
        raise KindRefusal()
    return kind


def with_each(kind, value):
    """The array of the value's shape whose items are what the kind makes of its items."""
    return array_of(extents_of(value), [made_of(kind, part) for part in parts_of(value)])


def made_of(kind, value):
    if kind == 0:
        return vector_of(extents_of(value))
    if kind == 1:
        return first_extent(value)
    if kind == 2:
        return raveled(value)
    if kind == 3:
        return leaf_sum(value)
    if kind == 4:
        return depth_of(value)
    if kind == 5:
        return turned(value)
    return first_part(value)


def first_extent(value):
    """The first extent, 1 if there is none."""
    return 1 if rank_of(value) == 0 else extents_of(value)[0]


def leaf_sum(value):
    total = sum(leaves_of(value))
    if abs(total) > LARGEST_NUMBER:
        raise BigRefusal()
    return total


def turned(value):
    """The array with the cells along its first axis in the opposite order."""
    if rank_of(value) == 0:
        return value
    parts = []
    for cell in reversed(parts_by_cell(value)):
        parts.extend(cell)
    return array_of(extents_of(value), parts)


def parts_by_cell(array):
    """A list of the items of each cell along the first axis."""
    extents = extents_of(array)
    parts = parts_of(array)
    count = product_of(extents[1:])
    return [parts[place * count:(place + 1) * count] for place in range(extents[0])]


def first_part(value):
    """The first item, the number 0 if there is none."""
    parts = parts_of(value)
    return parts[0] if len(parts) > 0 else 0
