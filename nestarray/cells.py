"""Cells: an array split into those along its first axis, and a vector of cells put together."""

from nestarray.checks import vector_parts
from nestarray.refusals import RankRefusal, ShapeRefusal
from nestarray.values import array_of, extents_of, joined_parts, parts_of, product_of, rank_of, vector_of


def parts_by_cell(array):
    """A list of the items of each cell along the first axis."""
    extents = extents_of(array)
    parts = parts_of(array)
    count = product_of(extents[1:])
    return [parts[place * count:(place + 1) * count] for place in range(extents[0])]


def split_up(value):
    """The vector of the cells of a value whose rank has to be 2 or more."""
    if rank_of(value) < 2:
        raise RankRefusal()
    inner = extents_of(value)[1:]
    return vector_of([array_of(inner, parts) for parts in parts_by_cell(value)])


def mixed(value):
    """The array whose cells along its first axis are the items of a vector."""
    parts = vector_parts(value)
    inner = common_extents(parts)
    return array_of([len(parts)] + inner, joined_parts(parts))


def common_extents(values):
    """The shape that all the values have, the empty one if there are none."""
    if len(values) == 0:
        return []
    extents = extents_of(values[0])
    if any([extents_of(value) != extents for value in values]):
        raise ShapeRefusal()
    return extents
