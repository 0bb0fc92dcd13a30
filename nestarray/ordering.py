"""The order of values: whether two are the same, which of them is first, and vectors in order."""

from nestarray.checks import vector_parts
from nestarray.values import is_number, vector_of
from nestarray.works import skeleton_of


def standing_of(value):
    """A tuple that stands to those of other values as the value, which isn't deep, stands to these.

    Python puts tuples in order by the first place where they differ, so what counts first comes first.
    """
    if is_number(value):
        return (0, value)
    standings = [standing_of(part) for part in value.parts]
    return (1, len(value.extents), tuple(value.extents), tuple(standings))


def are_same(one, other):
    return standing_of(one) == standing_of(other)


def are_alike(one, other):
    return are_same(skeleton_of(one), skeleton_of(other))


def first_of_two(one, other):
    """1 or 2 for the one that is first, 0 if they're the same."""
    if are_same(one, other):
        return 0
    return 1 if standing_of(one) < standing_of(other) else 2


def in_order(value):
    """The vector of a vector's items in order."""
    return vector_of(sorted(vector_parts(value), key=standing_of))
