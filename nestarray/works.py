"""The works on values, and the look at what comes out of them."""

from nestarray.refusals import LimitRefusal, RankRefusal
from nestarray.values import array_of, extents_of, is_number, is_shape, is_within_limits, parts_of, rank_of
from nestarray.values import vector_of


def come_out(value):
    """The value itself, if it may come out of a work."""
    if not is_within_limits(value) or not has_shapes(value):
        raise LimitRefusal()
    return value


def has_shapes(value):
    """Whether every array in a value that isn't deep has a shape that is one."""
    if is_number(value):
        return True
    return is_shape(value.extents) and all([has_shapes(part) for part in value.parts])


def with_numbers(value, number_for):
    """A value that isn't deep, with another number for each of its numbers."""
    if is_number(value):
        return number_for(value)
    return array_of(extents_of(value), [with_numbers(part, number_for) for part in parts_of(value)])


def skeleton_of(value):
    return with_numbers(value, lambda number: 0)


def enclosed(value):
    return array_of([], [value])


def disclosed(value):
    if rank_of(value) != 0:
        raise RankRefusal()
    return parts_of(value)[0]


def raveled(value):
    return vector_of(parts_of(value))
