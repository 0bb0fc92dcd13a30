"""The works on values, and the look at what comes out of them."""

from nestarray.refusals import LimitRefusal, RankRefusal
from nestarray.values import array_of, extents_of, is_number, is_shape, is_within_limits, parts_of, rank_of
from nestarray.values import vector_of


def come_out(value):
    """The value itself, if it may come out of a work."""
    if not is_within_limits(value) or not has_shapes(value):
        raise LimitRefusal()
    return value


def has_shapes(value):
    """Whether every array in a value that isn't deep has a shape that is one."""
    if is_number(value):
        return True
    return is_shape(value.extents) and all([has_shapes(part) for part in value.parts])


def skeleton_of(value):
    if is_number(value):
        return 0
    return array_of(extents_of(value), [skeleton_of(part) for part in parts_of(value)])


def enclosed(value):
    return array_of([], [value])


def disclosed(value):
    if rank_of(value) != 0:
        raise RankRefusal()
    return parts_of(value)[0]


def raveled(value):
    return vector_of(parts_of(value))
