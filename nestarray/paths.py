"""Paths: from an array to one of its items, step after step."""

from nestarray.counted import counted_lists
from nestarray.refusals import AtomRefusal, IndexRefusal, PathRefusal, ShapeRefusal
from nestarray.values import array_of, extents_of, is_number, parts_of, rank_of


def steps_of(path):
    """The indexes of a path, one for each of its steps."""
    steps = counted_lists(path)
    if steps is None:
        raise PathRefusal()
    return steps


def position_of(index, value):
    """Where the item with this index stands among the items of the value."""
    if is_number(value):
        raise AtomRefusal()
    if len(index) != rank_of(value):
        raise ShapeRefusal()
    position = 0
    for place, extent in zip(index, value.extents):
        if place < 0 or place >= extent:
            raise IndexRefusal()
        position = position * extent + place
    return position


def picked(value, steps):
    """The value to which the steps lead."""
    reached = value
    for index in steps:
        position = position_of(index, reached)
        reached = reached.parts[position]
    return reached


def replaced(value, steps, other):
    """The value in which another one stands where the steps lead.

    An array may become a number as its item does, so each one that was passed is made anew.
    """
    passed = []
    reached = value
    for index in steps:
        position = position_of(index, reached)
        passed.append((reached, position))
        reached = reached.parts[position]
    outcome = other
    for array, position in reversed(passed):
        outcome = with_part(array, position, outcome)
    return outcome


def with_part(array, position, part):
    parts = parts_of(array)
    parts[position] = part
    return array_of(extents_of(array), parts)
